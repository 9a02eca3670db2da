import PyProof.Rows.All
import Wide.All
import Wide.FinOn
import OpenK.KLine
import OpenK.KMore
import OpenK.KDescr
import OpenK.KOwn
import OpenK.KCls
import KE.KIsAll
import KE.KRevIter
import KE.KDictList
import KE.KIsNot
import KE.KItem
import KE.KDictSum
import KE.KDictOf
import KE.KxBytes
import KE.KFromBytes
import Open.FastRun
import PySem.Challenge.RW_swornhall_k15_steps_of_one
set_option Elab.async false
set_option linter.all false
set_option compiler.extract_closed false
set_option maxHeartbeats 0
set_option maxRecDepth 100000
abbrev Fg:=PySem.W.Frag
theorem zgm {α : Type _} {β : Type _} {f : α → β} {l : List α} {i : Nat} : (l.map f)[i]? = l[i]?.map f := List.getElem?_map
theorem zlm {α : Type _} {β : Type _} {as : List α} (f : α → β) : (as.map f).length = as.length := List.length_map f
theorem zme {α : Type _} {β : Type _} {f : α → β} {o : Option α} {b : β} : o.map f = some b ↔ ∃ a, o = some a ∧ f a = b := Option.map_eq_some_iff
theorem zmg {α : Type _} {l : List α} {i : Nat} {a : α} (e : l[i]? = some a) : a ∈ l := List.mem_of_getElem? e
theorem zms {α : Type _} {a b : α} : a ∈ [b] ↔ a = b := List.mem_singleton
theorem zst {α : Type _} {l : List α} : l.toArray.size = l.length := List.size_toArray
theorem zma {α : Type _} {a : α} {s t : List α} : a ∈ s ++ t ↔ a ∈ s ∨ a ∈ t := List.mem_append
theorem zge {α : Type _} {l : List α} {i : Nat} {a : α} : l[i]? = some a ↔ ∃ h : i < l.length, l[i] = a := List.getElem?_eq_some_iff
theorem zmc {α : Type _} {β : Type _} {f : α → β} {a : α} {l : List α} : (a :: l).map f = f a :: l.map f := List.map_cons
theorem zmm {α : Type _} {β : Type _} {f : α → β} {l : List α} {b : β} : b ∈ l.map f ↔ ∃ a, a ∈ l ∧ f a = b := List.mem_map
namespace L2
open PySem PySem.Spec PySem.Calls PyProof.Rows PySem.W
abbrev zba:List Value:=[.type "ValueError",.type "Exception",.type "BaseException",.type "object"]
def zaX (s:Stmt) (j:Nat):Stmt:=match s with
 | .ClassDef _ _ _ body _ _ _ _ _ _ _=>body.getD j (.Pass ⟨0,0,0,0⟩)
 | _=>.Pass ⟨0,0,0,0⟩
def zcW (s:Stmt):Arguments:=match s with
 | .FunctionDef _ a _ _ _ _ _ _ _ _=>a
 | _=>{posonlyargs:=[],args:=[],vararg:=none,kwonlyargs:=[],kw_defaults:=[],kwarg:=none,defaults:=[]}
def zb7 (s:Stmt):List Stmt:=match s with
 | .FunctionDef _ _ b _ _ _ _ _ _ _=>b
 | _=>[]
def zai (s:Stmt):Scope:=match s with
 | .FunctionDef _ _ _ _ _ _ sc _ _ _=>sc
 | _=>{kind:=.function,names:=[],isGenerator:=false,isCoroutine:=false}
def Kof (as:List Addr) (h:Heap):Fg:=as.filterMap λa=>(h.get? a).map λo=>(a,o)
theorem zmY (h:Heap):∀ as:List Addr,(Kof as h).In h
 | []=>λa o e=>by cases e
 | b::as=>λa o e=>by
  have ih:=zmY h as
  unfold Kof at e
  rw[List.filterMap_cons] at e
  cases hb:h.get? b with
  | none=>rw[hb] at e;exact ih a o e
  | some ob=>
   rw[hb] at e
   simp only[Option.map_some] at e
   rw[List.lookup_cons] at e
   by_cases z:(a == b)=true
   ·rw[z] at e
    cases e
    rw[eq_of_beq z];exact hb
   ·rw[Bool.not_eq_true] at z
    rw[z] at e
    exact ih a o e
abbrev Sig:=Str × Str × Arguments × FuncBody × Scope × Addr × List (Str × Addr) × Value × Addr
def zns (name qual:Str) (params:Arguments) (body:List Stmt) (scope:Scope):Sig:=(name,qual,params,.stmts body,scope,mainGlobals,[],.none,builtinsNs)
def zaM (K:Fg) (a:Addr):Option Sig:=match K.lookup a with
 | some ⟨_,_,.func f,_⟩=>some (f.name,f.qualname,f.params,f.body,f.scope,f.globals,f.closure,f.defaults,f.builtins)
 | _=>none
def zap (K:Fg) (a:Addr) (q:Str):Bool:=match K.lookup a with
 | some ⟨_,_,.func f,_⟩=>codeIn K f.code q && keepIn K (.ref a)
 | _=>false
def zfa (K:Fg) (C:Addr) (bm:List Value) (newId:String):Bool:=match K.lookup C with
 | some ⟨cl,_,.cls c,sl⟩=>cl == .type "type" && c.mro == .ref C::bm && !c.hasDel && (match sl.toList with
  | [_,_,_,_,some v,_]=>v == .builtin newId
  | _=>false)
 | _=>false
def zgg (K:Fg) (a:Addr) (vs:List Value):Bool:=match K.lookup a with
 | some ⟨cl,_,.seq xs _,_⟩=>cl == .type "tuple" && xs.toList == vs
 | _=>false
def eHook {β:Type}(as:List Addr) (see:Fg→β) (due:β):Hook:=
 ⟨β,λs=>see (Kof as s.heap),λ_=>due,λ_ h=>∃ K:Fg,K.In h∧see K=due,λ_ s e=>⟨_,zmY _ _,e⟩,λ_ _ _ ⟨K,x,e⟩ k=>⟨K,x.keeps k,e⟩⟩
end L2
namespace PySem.W.Fast
def tw12728155655210815339:=0
def tw3802403333999758170:=0
def tw2790259229890697314:=0
def tw11222693549758861043:=0
def tw16615797835219205015:=0
def tw5653039722261215000:=0
def tw8577502611005448029:=0
def tw13163238238081033684:=0
def tw16224579784842878789:=0
def tw1518712153548280519:=0
def tw16021633675579538702:=0
def tw13951834312711751460:=0
def tw7237218940286860392:=0
def tw1374809917478469207:=0
def tw10384348369702722304:=0
def tw16910051549073029448:=0
def tw15644476375059074491:=0
def tw4050933540509492002:=0
def tw1122291250890812655:=0
def tw1835390821640327817:=0
def tw8504656920594735512:=0
def tw14574798880578864707:=0
def tw12493481791137448802:=0
def tw7346036471673767270:=0
def tw6099790590732014031:=0
def tw10392618148191014978:=0
def tw1031358704201277654:=0
def tw1199365454555532382:=0
def tw12947189612364120706:=0
def tw15665957529309882285:=0
def tw10234348225388898405:=0
def tw5289901545482217282:=0
def tw11577442591147384666:=0
def tw17111713618443302529:=0
def tw17006198852397244752:=0
def tw15144771932881055988:=0
def tw14507704454074092027:=0
def tw17208227795328693659:=0
def tw6693317014466329555:=0
def tw14186242180420841093:=0
def tw13364713769280198956:=0
def tw890191712892274692:=0
def tw15033821564302658269:=0
def tw15363118820553545485:=0
def tw11010453000790621300:=0
def tw12040380273667717072:=0
def tw1373640410035995925:=0
def tw14471480360295198444:=0
def tw10277148124028702865:=0
def tw703968393509560646:=0
def tw13760122104838407017:=0
def tw15623055377165468266:=0
def tw4750919507916792045:=0
def tw695330362229488136:=0
def tw14567239308742703618:=0
def tw243811922352030722:=0
def tw9463541120787509525:=0
def tw13527367098107788277:=0
def tw8648865030240660519:=0
def tw10082779051404270266:=0
def tw1655255401701283940:=0
def tw805142674937156045:=0
def tw17653480019290699267:=0
def tw5442513784349033778:=0
def tw14906859940118440895:=0
def tw5274219756901739554:=0
def tw2680506259042803900:=0
def tw93115630978850089:=0
def tw10699148939626316958:=0
def tw9186214224942404548:=0
def tw8549807536953498795:=0
def tw8571525042792982040:=0
def tw3101662533174874348:=0
def tw3363590089761674384:=0
def tw16047321213231817806:=0
def tw1936621314055554277:=0
def tw16124056191099116438:=0
def tw2087224269905556143:=0
def tw15482353526893121274:=0
def tw15493383867903673147:=0
def tw3384883346277717295:=0
def tw18331854377266121960:=0
def tw13673949687875467854:=0
def tw11822904124633636021:=0
def tw4286654908984575652:=0
def tw8112300295087546384:=0
def tw3504164028473713949:=0
def tw6436317171372743410:=0
def tw3980293830659440873:=0
def tw1238790452916969967:=0
def tw6835594011408247325:=0
def tw12645700615112774335:=0
def tw16601380284292431500:=0
def tw12955527122603155640:=0
def tw11490981264982071379:=0
def tw2528830590306165483:=0
def tw2633455415617403583:=0
def tw7601335380914098319:=0
def tw18293354450082709358:=0
def tw5431611142975047955:=0
def tw8823756411501583727:=0
def tw12515220917261694965:=0
def tw9771447739676286339:=0
def tw8500948658279510632:=0
def tw11259241266269359829:=0
def tw12864481094104876153:=0
def tw7360885303157787514:=0
def tw10814493265220025677:=0
def tw15691549791033415471:=0
def tw14083223813878037625:=0
def tw12809080327472280913:=0
def tw9930849647127865697:=0
def tw2216239203070816226:=0
def tw12073474959780665930:=0
def tw15794012918962561357:=0
def tw12491418527697431691:=0
def tw1233311965471067012:=0
def tw10792610417816166364:=0
def tw15215707703083464568:=0
def tw2577905814295975513:=0
def tw11137974911109890070:=0
def tw795691916612291436:=0
def tw5791629111605304269:=0
def tw8923865736016560949:=0
def tw7973623853131112041:=0
end PySem.W.Fast
namespace My
open PySem L2 PyProof.Rows
def top (i:Nat):Stmt:=PySem.Challenge.pw_swornhall_k15_steps_of_one.main.body.getD i (.Pass ⟨0,0,0,0⟩)
abbrev Q0:Stmt:=top 10
abbrev Q3:Stmt:=top 11
abbrev Q5:Stmt:=zaX (top 17) 0
abbrev Q7:Stmt:=zaX (top 17) 1
abbrev Qa:Stmt:=zaX (top 18) 0
abbrev Qc:Stmt:=zaX (top 18) 1
abbrev Qe:Stmt:=zaX (top 18) 2
abbrev Q11:Stmt:=zaX (top 18) 3
abbrev Q14:Stmt:=zaX (top 18) 4
abbrev Q16:Stmt:=zaX (top 18) 5
abbrev Q19:Stmt:=zaX (top 18) 6
abbrev Q1b:Stmt:=zaX (top 18) 7
abbrev Q1d:Stmt:=zaX (top 18) 8
abbrev Q1f:Stmt:=zaX (top 18) 9
abbrev Q22:Stmt:=zaX (top 18) 10
abbrev Q25:Stmt:=zaX (top 18) 11
abbrev Q28:Stmt:=zaX (top 18) 12
abbrev Q2b:Stmt:=zaX (top 18) 13
abbrev Q2e:Stmt:=zaX (top 18) 14
abbrev Q30:Stmt:=zaX (top 18) 15
abbrev Q33:Stmt:=zaX (top 18) 16
abbrev Q36:Stmt:=top 19
abbrev Q39:Stmt:=top 20
abbrev Q3c:Stmt:=zaX (top 31) 0
abbrev Q3e:Stmt:=top 32
abbrev Q41:Stmt:=top 33
abbrev Q44:Stmt:=top 34
abbrev Q47:Stmt:=top 35
abbrev Q4a:Stmt:=top 36
abbrev Q4c:Stmt:=top 37
abbrev Q4f:Stmt:=top 38
abbrev Q52:Stmt:=top 39
abbrev Q55:Stmt:=top 40
abbrev Q58:Stmt:=top 41
abbrev Q5b:Stmt:=top 42
abbrev Q5e:Stmt:=top 43
abbrev Q61:Stmt:=top 44
abbrev Q64:Stmt:=top 45
abbrev Q67:Stmt:=top 46
abbrev Q69:Stmt:=top 47
abbrev Q6b:Stmt:=top 48
abbrev Q6e:Stmt:=zaX (top 71) 0
abbrev Q70:Stmt:=zaX (top 71) 1
abbrev Q72:Stmt:=zaX (top 71) 3
abbrev Q75:Stmt:=zaX (top 71) 4
abbrev Q78:Stmt:=zaX (top 71) 12
abbrev Q7b:Stmt:=zaX (top 71) 13
abbrev Q7e:Stmt:=zaX (top 71) 14
abbrev Q81:Stmt:=top 72
abbrev Q84:Stmt:=top 74
abbrev Q87:Stmt:=top 75
abbrev Q8a:Stmt:=top 76
abbrev Q8d:Stmt:=top 77
abbrev Q90:Stmt:=top 78
abbrev Q93:Stmt:=top 79
abbrev Q96:Stmt:=top 80
abbrev Q99:Stmt:=top 81
abbrev Q9a:Stmt:=top 82
abbrev Q9c:Stmt:=top 83
abbrev Q9f:Stmt:=top 84
abbrev Qa2:Stmt:=top 85
abbrev Qa5:Stmt:=top 86
abbrev Qa8:Stmt:=top 87
abbrev Qaa:Stmt:=top 88
abbrev Qad:Stmt:=top 89
abbrev Qaf:Stmt:=top 90
abbrev Qb1:Stmt:=top 91
abbrev s_l_parts_here:Stmt:=top 92
abbrev s_law:Stmt:=top 93
section
open PySem PySem.Spec PySem.Calls PyProof.Rows PySem.W L2
def zoF (p:Program) (ks:List Nat):Program:={p with main:={p.main with body:=ks.filterMap λi=>p.main.body[i]?}}
def Qv:Program:=zoF PySem.Challenge.rw_swornhall_k15_steps_of_one.row.toRowW.prog [0,2,3,4,5,6,8,9,10,11,12,13,14,16,17,18,19,20,22,23,24,25,26,27,28,29,30,31,32,33,34,35,36,37,38,39,40,41,42,43,44,45,46,47,48,49,51,52,53,54,55,56,57,58,59,60,61,62,63,64,65,66,67,68,69,71,72,74,75,76,77,78,79,80,81,82,83,84,85,86,87,88,89,90,91,92,93]
abbrev nI (K:Fg) (s:Str) (n:Addr):Bool:=PySem.W.nsIn K mainGlobals s == some (some (.ref n))
abbrev fI (K:Fg) (c:Addr) (s:Str) (n:Addr):Bool:=PySem.W.findIn K (.ref c) s == some (some (.ref n))
abbrev gS (n q:Str) (d:Stmt):Option L2.Sig:=some (L2.zns n q (zcW d) (zb7 d) (zai d))
def zBo1 (K:Fg):List Bool:=[nI K "HallError" 31,
 nI K "BadSheet" 44,
 nI K "NoCraft" 56,
 nI K "Unmet" 68,
 nI K "Unfit" 80,
 nI K "Frame" 137,
 nI K "Run" 268,
 nI K "Craft" 304,
 nI K "Hall" 618,
 nI K "copied_lines" 313,
 L2.zap K 313 "copied_lines",
 nI K "copied_deed" 318,
 L2.zap K 318 "copied_deed",
 fI K 304 "__init__" 301,
 PySem.W.isFn K (.ref 301),
 L2.zap K 301 "Craft.__init__",
 nI K "worth" 89,
 L2.zap K 89 "worth",
 nI K "holds" 96,
 L2.zap K 96 "holds",
 fI K 137 "__init__" 127,
 PySem.W.isFn K (.ref 127),
 L2.zap K 127 "Frame.__init__",
 fI K 137 "numbers" 134,
 PySem.W.isFn K (.ref 134),
 L2.zap K 134 "Frame.numbers",
 fI K 618 "standing" 540,
 PySem.W.isFn K (.ref 540),
 L2.zap K 540 "Hall.standing",
 nI K "copied_craft" 325,
 L2.zap K 325 "copied_craft",
 fI K 618 "crafts" 547,
 PySem.W.isFn K (.ref 547),
 L2.zap K 547 "Hall.crafts",
 fI K 268 "craft_of" 258,
 PySem.W.isFn K (.ref 258),
 L2.zap K 258 "Run.craft_of",
 fI K 268 "is_behind_last_deed" 230,
 PySem.W.isFn K (.ref 230),
 L2.zap K 230 "Run.is_behind_last_deed",
 nI K "first_unmet" 279,
 L2.zap K 279 "first_unmet",
 fI K 268 "meets" 265,
 PySem.W.isFn K (.ref 265),
 L2.zap K 265 "Run.meets",
 fI K 268 "take" 251,
 PySem.W.isFn K (.ref 251),
 L2.zap K 251 "Run.take",
 fI K 268 "leave" 244,
 PySem.W.isFn K (.ref 244),
 L2.zap K 244 "Run.leave",
 fI K 268 "meet_notes" 237,
 PySem.W.isFn K (.ref 237),
 L2.zap K 237 "Run.meet_notes",
 fI K 268 "come_to" 223,
 PySem.W.isFn K (.ref 223),
 L2.zap K 223 "Run.come_to",
 fI K 268 "begin" 216,
 PySem.W.isFn K (.ref 216),
 L2.zap K 216 "Run.begin",
 nI K "asked_numbers" 286,
 L2.zap K 286 "asked_numbers",
 fI K 268 "__init__" 155,
 PySem.W.isFn K (.ref 155),
 L2.zap K 155 "Run.__init__",
 fI K 268 "put" 188,
 PySem.W.isFn K (.ref 188),
 L2.zap K 188 "Run.put",
 fI K 268 "draw" 195,
 PySem.W.isFn K (.ref 195),
 L2.zap K 195 "Run.draw",
 fI K 268 "hold" 202,
 PySem.W.isFn K (.ref 202),
 L2.zap K 202 "Run.hold",
 fI K 268 "call" 209,
 PySem.W.isFn K (.ref 209),
 L2.zap K 209 "Run.call",
 fI K 268 "step" 181,
 PySem.W.isFn K (.ref 181),
 L2.zap K 181 "Run.step",
 fI K 268 "go" 162,
 PySem.W.isFn K (.ref 162),
 L2.zap K 162 "Run.go",
 fI K 268 "steps" 169,
 PySem.W.isFn K (.ref 169),
 L2.zap K 169 "Run.steps",
 fI K 268 "frames" 174,
 PySem.W.isFn K (.ref 174),
 L2.zap K 174 "Run.frames",
 nI K "called_by" 330,
 L2.zap K 330 "called_by",
 nI K "between" 411,
 L2.zap K 411 "between",
 nI K "small_enough" 404,
 L2.zap K 404 "small_enough",
 nI K "line_right" 364,
 L2.zap K 364 "line_right",
 nI K "lines_right" 359,
 L2.zap K 359 "lines_right",
 nI K "oath_right" 344,
 L2.zap K 344 "oath_right",
 nI K "hand_right" 397,
 L2.zap K 397 "hand_right",
 nI K "two_hands_right" 390,
 L2.zap K 390 "two_hands_right",
 nI K "call_right" 385,
 L2.zap K 385 "call_right",
 nI K "range_right" 378,
 L2.zap K 378 "range_right",
 nI K "deed_right" 371,
 L2.zap K 371 "deed_right",
 nI K "deeds_right" 349,
 L2.zap K 349 "deeds_right",
 nI K "notes_right" 354,
 L2.zap K 354 "notes_right",
 nI K "right" 337,
 L2.zap K 337 "right",
 fI K 618 "__init__" 519,
 PySem.W.isFn K (.ref 519),
 L2.zap K 519 "Hall.__init__",
 fI K 618 "release" 608,
 PySem.W.isFn K (.ref 608),
 L2.zap K 608 "Hall.release",
 fI K 618 "called_at" 601,
 PySem.W.isFn K (.ref 601),
 L2.zap K 601 "Hall.called_at",
 fI K 618 "release_callers" 615,
 PySem.W.isFn K (.ref 615)]
def zBo2 (K:Fg):List Bool:=[L2.zap K 615 "Hall.release_callers",
 nI K "same_oath" 629,
 L2.zap K 629 "same_oath",
 fI K 618 "lay" 526,
 PySem.W.isFn K (.ref 526),
 L2.zap K 526 "Hall.lay",
 nI K "_law_mix" 643,
 L2.zap K 643 "_law_mix",
 nI K "_law_number" 650,
 L2.zap K 650 "_law_number",
 nI K "_law_line_by" 655,
 L2.zap K 655 "_law_line_by",
 nI K "_law_lines_by" 667,
 L2.zap K 667 "_law_lines_by",
 nI K "_law_cell_at" 636,
 L2.zap K 636 "_law_cell_at",
 nI K "_law_deed_by" 662,
 L2.zap K 662 "_law_deed_by",
 nI K "_law_parts_by" 672,
 L2.zap K 672 "_law_parts_by",
 nI K "_law_parts_here" 752,
 L2.zap K 752 "_law_parts_here",
 nI K "_law_worth" 686,
 L2.zap K 686 "_law_worth",
 nI K "_law_first_false" 693,
 L2.zap K 693 "_law_first_false",
 nI K "_law_numbers" 700,
 L2.zap K 700 "_law_numbers",
 nI K "_law_comes" 707,
 L2.zap K 707 "_law_comes",
 nI K "_law_entered" 714,
 L2.zap K 714 "_law_entered",
 nI K "_law_refused" 747,
 L2.zap K 747 "_law_refused",
 nI K "_law_alike" 735,
 L2.zap K 735 "_law_alike",
 nI K "_law_whole" 679,
 L2.zap K 679 "_law_whole",
 nI K "_law_same" 740,
 L2.zap K 740 "_law_same",
 nI K "_law_called" 721,
 L2.zap K 721 "_law_called",
 nI K "_law_stepped" 728,
 L2.zap K 728 "_law_stepped",
 nI K "law" 757,
 L2.zap K 757 "law",
 PySem.W.nsIn K mainGlobals "all"== some none,
 PySem.W.nsIn K mainGlobals "bool"== some none,
 PySem.W.nsIn K mainGlobals "enumerate"== some none,
 PySem.W.nsIn K mainGlobals "int"== some none,
 PySem.W.nsIn K mainGlobals "isinstance"== some none,
 PySem.W.nsIn K mainGlobals "len"== some none,
 PySem.W.nsIn K mainGlobals "list"== some none,
 PySem.W.nsIn K mainGlobals "max"== some none,
 PySem.W.nsIn K mainGlobals "range"== some none,
 PySem.W.nsIn K mainGlobals "sorted"== some none,
 PySem.W.nsIn K mainGlobals "tuple"== some none,
 PySem.W.nsIn K mainGlobals "zip"== some none,
 PySem.W.nsIn K mainGlobals "NUMBERS"== some (some (.int 9 280)),
 PySem.W.nsIn K mainGlobals "FACTORS"== some (some (.int 8 282)),
 PySem.W.nsIn K mainGlobals "MOST_FRAMES"== some (some (.int 20 326)),
 nI K "HAND_SPOTS" 287,
 L2.zgg K 287 [(.int 1 567),(.int 2 568),(.int 3 569),(.int 4 570)],
 nI K "LEFT_SPOTS" 288,
 L2.zgg K 288 [(.int 7 572),(.int 8 573)],
 nI K "LEFT_AS_HANDS" 289,
 L2.zgg K 289 [(.int 0 575),(.int 1 576),(.int 2 577),(.int 3 578),(.int 4 579),(.int 5 580),(.int 0 581),(.int 1 582)],
 PySem.W.nsIn K mainGlobals "MOST_LINES"== some (some (.int 2 584)),
 PySem.W.nsIn K mainGlobals "MOST_DEEDS"== some (some (.int 8 586)),
 PySem.W.nsIn K mainGlobals "LAST_HAND"== some (some (.int 3 588)),
 PySem.W.nsIn K mainGlobals "LAST_NUMBER"== some (some (.int 99 590)),
 PySem.W.nsIn K mainGlobals "GREATEST_BY"== some (some (.int 1000 592)),
 PySem.W.nsIn K mainGlobals "GREATEST"== some (some (.int 1000000000 594)),
 PySem.W.nsIn K mainGlobals "ASKED_0"== some (some (.int 4 754)),
 PySem.W.nsIn K mainGlobals "ASKED_1"== some (some (.int 5 756)),
 PySem.W.nsIn K mainGlobals "NEW_0"== some (some (.int 6 758)),
 PySem.W.nsIn K mainGlobals "NEW_1"== some (some (.int 7 760)),
 nI K "WHOLES" 417,
 L2.zgg K 417 [(.int 1 762),(.int 2 763),(.int 3 764),(.int 4 765)],
 L2.zfa K 31 zba "ValueError.__new__",
 PySem.W.excIn K 31 zba "ValueError.__new__",
 L2.zfa K 44 (.ref 31::zba) "ValueError.__new__",
 PySem.W.excIn K 44 zba "ValueError.__new__",
 L2.zfa K 56 (.ref 31::zba) "ValueError.__new__",
 PySem.W.excIn K 56 zba "ValueError.__new__",
 L2.zfa K 68 (.ref 31::zba) "ValueError.__new__",
 PySem.W.excIn K 68 zba "ValueError.__new__",
 L2.zfa K 80 (.ref 31::zba) "ValueError.__new__",
 PySem.W.excIn K 80 zba "ValueError.__new__",
 PySem.W.plainGet K 137 Str.empty,
 PySem.W.hasDictIn K 137,
 PySem.W.plainOver K 137,
 PySem.W.findIn K (.ref 137) "__setattr__"== some (some (.builtin "object.__setattr__")),
 PySem.W.makesIn K 137,
 PySem.W.keepIn K (.ref 137),
 PySem.W.findIn K (.ref 137) "number"== some none,
 PySem.W.findIn K (.ref 137) "place"== some none,
 PySem.W.findIn K (.ref 137) "hands"== some none,
 PySem.W.findIn K (.ref 137) "asked"== some none,
 PySem.W.plainGet K 268 Str.empty,
 PySem.W.hasDictIn K 268,
 PySem.W.plainOver K 268,
 PySem.W.findIn K (.ref 268) "__setattr__"== some (some (.builtin "object.__setattr__")),
 PySem.W.makesIn K 268,
 PySem.W.keepIn K (.ref 268),
 PySem.W.findIn K (.ref 268) "known"== some none,
 PySem.W.findIn K (.ref 268) "inputs_left"== some none,
 PySem.W.findIn K (.ref 268) "stack"== some none,
 PySem.W.findIn K (.ref 268) "steps_done"== some none,
 PySem.W.findIn K (.ref 268) "ending"== some none,
 PySem.W.plainGet K 304 Str.empty,
 PySem.W.hasDictIn K 304,
 PySem.W.plainOver K 304,
 PySem.W.findIn K (.ref 304) "__setattr__"== some (some (.builtin "object.__setattr__")),
 PySem.W.makesIn K 304,
 PySem.W.keepIn K (.ref 304),
 PySem.W.findIn K (.ref 304) "needs"== some none,
 PySem.W.findIn K (.ref 304) "leaves"== some none,
 PySem.W.findIn K (.ref 304) "deeds"== some none,
 PySem.W.findIn K (.ref 304) "notes"== some none,
 PySem.W.plainGet K 618 Str.empty,
 PySem.W.hasDictIn K 618,
 PySem.W.plainOver K 618,
 PySem.W.findIn K (.ref 618) "__setattr__"== some (some (.builtin "object.__setattr__")),
 PySem.W.makesIn K 618,
 PySem.W.keepIn K (.ref 618),
 PySem.W.findIn K (.ref 618) "laid"== some none,
 PySem.W.findIn K (.ref 618) "vouched"== some none]
def zBoo (K:Fg):List Bool:=zBo1 K++zBo2 K
def zSee (K:Fg):List (Option L2.Sig):=[L2.zaM K 313,L2.zaM K 318,L2.zaM K 301,L2.zaM K 89,L2.zaM K 96,L2.zaM K 127,L2.zaM K 134,L2.zaM K 540,L2.zaM K 325,L2.zaM K 547,L2.zaM K 258,L2.zaM K 230,L2.zaM K 279,L2.zaM K 265,L2.zaM K 251,L2.zaM K 244,L2.zaM K 237,L2.zaM K 223,L2.zaM K 216,L2.zaM K 286,L2.zaM K 155,L2.zaM K 188,L2.zaM K 195,L2.zaM K 202,L2.zaM K 209,L2.zaM K 181,L2.zaM K 162,L2.zaM K 169,L2.zaM K 174,L2.zaM K 330,L2.zaM K 411,L2.zaM K 404,L2.zaM K 364,L2.zaM K 359,L2.zaM K 344,L2.zaM K 397,L2.zaM K 390,L2.zaM K 385,L2.zaM K 378,L2.zaM K 371,L2.zaM K 349,L2.zaM K 354,L2.zaM K 337,L2.zaM K 519,L2.zaM K 608,L2.zaM K 601,L2.zaM K 615,L2.zaM K 629,L2.zaM K 526,L2.zaM K 643,L2.zaM K 650,L2.zaM K 655,L2.zaM K 667,L2.zaM K 636,L2.zaM K 662,L2.zaM K 672,L2.zaM K 752,L2.zaM K 686,L2.zaM K 693,L2.zaM K 700,L2.zaM K 707,L2.zaM K 714,L2.zaM K 747,L2.zaM K 735,L2.zaM K 679,L2.zaM K 740,L2.zaM K 721,L2.zaM K 728,L2.zaM K 757]
def zSig:List (Option L2.Sig):=[gS "copied_lines" "copied_lines" Q3e,
 gS "copied_deed" "copied_deed" Q41,
 gS "__init__" "Craft.__init__" Q3c,
 gS "worth" "worth" Q0,
 gS "holds" "holds" Q3,
 gS "__init__" "Frame.__init__" Q5,
 gS "numbers" "Frame.numbers" Q7,
 gS "standing" "Hall.standing" Q72,
 gS "copied_craft" "copied_craft" Q44,
 gS "crafts" "Hall.crafts" Q75,
 gS "craft_of" "Run.craft_of" Q30,
 gS "is_behind_last_deed" "Run.is_behind_last_deed" Q25,
 gS "first_unmet" "first_unmet" Q36,
 gS "meets" "Run.meets" Q33,
 gS "take" "Run.take" Q2e,
 gS "leave" "Run.leave" Q2b,
 gS "meet_notes" "Run.meet_notes" Q28,
 gS "come_to" "Run.come_to" Q22,
 gS "begin" "Run.begin" Q1f,
 gS "asked_numbers" "asked_numbers" Q39,
 gS "__init__" "Run.__init__" Qa,
 gS "put" "Run.put" Q16,
 gS "draw" "Run.draw" Q19,
 gS "hold" "Run.hold" Q1b,
 gS "call" "Run.call" Q1d,
 gS "step" "Run.step" Q14,
 gS "go" "Run.go" Qc,
 gS "steps" "Run.steps" Qe,
 gS "frames" "Run.frames" Q11,
 gS "called_by" "called_by" Q47,
 gS "between" "between" Q6b,
 gS "small_enough" "small_enough" Q69,
 gS "line_right" "line_right" Q58,
 gS "lines_right" "lines_right" Q55,
 gS "oath_right" "oath_right" Q4c,
 gS "hand_right" "hand_right" Q67,
 gS "two_hands_right" "two_hands_right" Q64,
 gS "call_right" "call_right" Q61,
 gS "range_right" "range_right" Q5e,
 gS "deed_right" "deed_right" Q5b,
 gS "deeds_right" "deeds_right" Q4f,
 gS "notes_right" "notes_right" Q52,
 gS "right" "right" Q4a,
 gS "__init__" "Hall.__init__" Q6e,
 gS "release" "Hall.release" Q7b,
 gS "called_at" "Hall.called_at" Q78,
 gS "release_callers" "Hall.release_callers" Q7e,
 gS "same_oath" "same_oath" Q81,
 gS "lay" "Hall.lay" Q70,
 gS "_law_mix" "_law_mix" Q87,
 gS "_law_number" "_law_number" Q8a,
 gS "_law_line_by" "_law_line_by" Q8d,
 gS "_law_lines_by" "_law_lines_by" Q93,
 gS "_law_cell_at" "_law_cell_at" Q84,
 gS "_law_deed_by" "_law_deed_by" Q90,
 gS "_law_parts_by" "_law_parts_by" Q96,
 gS "_law_parts_here" "_law_parts_here" s_l_parts_here,
 gS "_law_worth" "_law_worth" Q9a,
 gS "_law_first_false" "_law_first_false" Q9c,
 gS "_law_numbers" "_law_numbers" Q9f,
 gS "_law_comes" "_law_comes" Qa2,
 gS "_law_entered" "_law_entered" Qa5,
 gS "_law_refused" "_law_refused" Qb1,
 gS "_law_alike" "_law_alike" Qad,
 gS "_law_whole" "_law_whole" Q99,
 gS "_law_same" "_law_same" Qaf,
 gS "_law_called" "_law_called" Qa8,
 gS "_law_stepped" "_law_stepped" Qaa,
 gS "law" "law" s_law]
def HK:PySem.W.Hook:=L2.eHook (List.range 758) (λK=>((zBoo K).all id,zSee K)) (true,zSig)
set_option maxRecDepth 1000000 in
set_option maxHeartbeats 0 in
theorem said0:OpenLaw.wellSaid PySem.Challenge.rw_swornhall_k15_steps_of_one=true:=by
 rw[PySem.W.Fast.te9446332074065402090]
 kernel_rfl
set_option maxRecDepth 1000000 in
set_option maxHeartbeats 0 in
theorem _root_.PySem.Challenge.hd_swornhall_k15_steps_of_one (q:∀ (d:DefRec) (kwd:List (Str × PySem.Expr)),defOf My.Qv PySem.Challenge.rw_swornhall_k15_steps_of_one.row.name=some (d,kwd)→WalkO My.Qv [] (XL My.Qv []) (Hook.says My.HK) PySem.Challenge.rw_swornhall_k15_steps_of_one.row.toRowW d kwd λf vs=>PySem.call f vs):PySem.Challenge.rw_swornhall_k15_steps_of_one.Holds:=by
 refine holds_law My.said0 λsaid=>?_
 have h:=q _ _ rfl
 refine (λ(_:type_of% h)=>?m) ?hc
 rotate_left
 exact h
 o_head My.HK
 case hw=>w_witness2
end
end My
namespace L2
open PySem PySem.Spec PyProof.Rows

abbrev Key:=Sum Int Str
def zg3:Key→Value→Bool
 | .inl k,v=>Value.isInt k v
 | .inr x,v=>Value.isStrOf x v
def keyH (w:World):Key→Int
 | .inl k=>hashInt k
 | .inr x=>hashStr w x
theorem za2:∀ {k:Key}{v:Value},zg3 k v=true→(∃ i t,k=Sum.inl i∧v=Value.int i t)∨(∃ x t,k=Sum.inr x∧v=Value.str x t)
 | .inl i,v,h=>by
  obtain⟨t,e⟩:=Value.isInt_shape (k:=i) (v:=v) h
  exact .inl ⟨i,t,rfl,e⟩
 | .inr x,v,h=>by
  obtain⟨t,e⟩:=Value.isStrOf_shape (x:=x) (v:=v) h
  exact .inr ⟨x,t,rfl,e⟩
theorem zko (i:Int) (t:Tok):zg3 (.inl i) (.int i t)=true:=by simp[zg3,Value.isInt]
theorem zkp (x:Str) (t:Tok):zg3 (.inr x) (.str x t)=true:=by simp[zg3,Value.isStrOf]
theorem zoG (a b:Int):decide ((Sum.inl a:Key)=Sum.inl b)=(a == b):=by
 by_cases e:a=b
 ·subst e;simp
 ·have h:¬ (Sum.inl a:Key)=Sum.inl b:=λq=>e (Sum.inl.inj q)
  rw[decide_eq_false h]
  exact (beq_eq_false_iff_ne.mpr e).symm
theorem zoH (a b:Str):decide ((Sum.inr a:Key)=Sum.inr b)=decide (a=b):=by
 by_cases e:a=b
 ·subst e;simp
 ·have h:¬ (Sum.inr a:Key)=Sum.inr b:=λq=>e (Sum.inr.inj q)
  rw[decide_eq_false h,decide_eq_false e]
theorem zoI (a:Int) (b:Str):decide ((Sum.inl a:Key)=Sum.inr b)=false:=decide_eq_false (λq=>nomatch q)
theorem zoJ (a:Str) (b:Int):decide ((Sum.inr a:Key)=Sum.inl b)=false:=decide_eq_false (λq=>nomatch q)
def za9 (prog:Program) (w:World):PySem.KeyKind prog w Key where
 is:=zg3
 hash:=keyH w
 inj:=λv a b ha hb=>by
  rcases za2 ha with ⟨i,t,rfl,rfl⟩ | ⟨x,t,rfl,rfl⟩
  ·rcases za2 hb with ⟨j,u,rfl,e⟩ | ⟨y,u,rfl,e⟩
   ·injection e with e1 _;rw[e1]
   ·exact nomatch e
  ·rcases za2 hb with ⟨j,u,rfl,e⟩ | ⟨y,u,rfl,e⟩
   ·exact nomatch e
   ·injection e with e1 _;rw[e1]
 byValue:=λk v h=>by
  rcases za2 h with ⟨i,t,rfl,rfl⟩ | ⟨x,t,rfl,rfl⟩ <;> rfl
 pyHash:=λhv h=>by
  rcases za2 hv with ⟨i,t,rfl,rfl⟩ | ⟨x,t,rfl,rfl⟩
  ·exact wpAny_pyHash_int h
  ·exact wpAny_pyHash_str h
 eqBool:=λhu hv h=>by
  rcases za2 hu with ⟨i,t,rfl,rfl⟩ | ⟨x,t,rfl,rfl⟩
  ·rcases za2 hv with ⟨j,u,rfl,rfl⟩ | ⟨y,u,rfl,rfl⟩
   ·rw[zoG] at h;exact wpAny_eqBool_int h
   ·rw[zoI] at h;exact SeqAt.EqAt.int_str i t y u _ _ _ _ h
  ·rcases za2 hv with ⟨j,u,rfl,rfl⟩ | ⟨y,u,rfl,rfl⟩
   ·rw[zoJ] at h;exact SeqAt.EqAt.str_int x t j u _ _ _ _ h
   ·rw[zoH] at h;exact wpAny_eqBool_str h
 «strs»:=λk x t v h=>by
  rcases za2 h with ⟨i,u,rfl,e⟩ | ⟨y,u,rfl,e⟩
  ·exact nomatch e
  ·injection e with e1 _
   subst e1
   cases v <;> rfl
theorem zih (prog:Program) (w:World) (i:Int) (t:Tok):(za9 prog w).is (.inl i) (.int i t)=true:=zko i t
theorem zii (prog:Program) (w:World) (x:Str) (t:Tok):(za9 prog w).is (.inr x) (.str x t)=true:=zkp x t
end L2

namespace L2
open PySem PySem.Spec PyProof.Rows

inductive V where
 | non | bl (b:Bool) | int (i:Int) | str (x:Str) | byt (b:Array UInt8) | flt (b:UInt64) | ref (a:Addr) | ty (n:String)
 deriving DecidableEq
def RelV:V→Value→Prop
 | .non,u=>u=Value.none
 | .bl b,u=>u=Value.bool b
 | .int i,u=>∃ t,u=Value.int i t
 | .str x,u=>∃ t,u=Value.str x t
 | .byt b,u=>∃ t,u=Value.bytes b t
 | .flt b,u=>∃ t,u=Value.float b t
 | .ref a,u=>u=Value.ref a
 | .ty n,u=>u=Value.type n
abbrev Vals:List V→List Value→Prop:=Paired RelV
theorem Vals.length {xs:List V}{us:List Value}(r:Vals xs us):xs.length=us.length:=Paired.length r
theorem Vals.get:∀ {xs:List V}{us:List Value}{i:Nat}{x:V},Vals xs us→xs[i]?=some x→∃ u,us[i]?=some u∧RelV x u
 | _,_,_,_,.nil,e=>by simp at e
 | _,_,0,_,.cons r _,e=>by simp at e;subst e;exact⟨_,rfl,r⟩
 | _,_,i+1,x,.cons _ t,e=>by
  obtain⟨u,h1,h2⟩:=Vals.get (i:=i) (x:=x) t (by simpa using e)
  exact⟨u,by simpa using h1,h2⟩
theorem Vals.set {x:V}{u:Value}(r:RelV x u):∀ {xs:List V}{us:List Value}(i:Nat),Vals xs us→Vals (xs.set i x) (us.set i u)
 | _,_,_,.nil=>.nil
 | _,_,0,.cons _ t=>.cons r t
 | _,_,i+1,.cons q t=>.cons q (Vals.set r i t)
theorem Vals.append:∀ {xs ys:List V}{us ws:List Value},Vals xs us→Vals ys ws→Vals (xs++ys) (us++ws)
 | _,_,_,_,.nil,s=>s
 | _,_,_,_,.cons r t,s=>.cons r (Vals.append t s)
theorem Vals.take:∀ {xs:List V}{us:List Value}(n:Nat),Vals xs us→Vals (xs.take n) (us.take n)
 | _,_,0,_=>.nil
 | _,_,_+1,.nil=>.nil
 | _,_,n+1,.cons r t=>.cons r (Vals.take n t)
theorem Vals.drop:∀ {xs:List V}{us:List Value}(n:Nat),Vals xs us→Vals (xs.drop n) (us.drop n)
 | _,_,0,r=>r
 | _,_,_+1,.nil=>.nil
 | _,_,n+1,.cons _ t=>Vals.drop n t
theorem Vals.none_of:∀ {xs:List V}{us:List Value}{i:Nat},Vals xs us→xs[i]?=none→us[i]?=none:=λ{xs us i} r e=>by
 have h1:=r.length
 have h2:xs.length≤i:=List.getElem?_eq_none_iff.mp e
 exact List.getElem?_eq_none_iff.mpr (by omega)
def RelO:Option V→Option Value→Prop
 | some v,some u=>RelV v u
 | none,none=>True
 | _,_=>False
def KV {κ:Type} : List (κ × V)→List (κ × Value)→Prop:=Paired λ(p:κ × V) (q:κ × Value)=>p.1=q.1∧RelV p.2 q.2
def kV:Key→V
 | .inl i=>.int i
 | .inr x=>.str x
inductive HO where
 /-- a list -/
 | lst (xs:List V)
 /-- a tuple (never changes) -/
 | tup (xs:List V)
 /-- a dict whose keys are ints and texts;one whose keys are tuples of ints and texts (the empty one is both) -/
 | dK (kvs:List (Key × V)) | dT (kvs:List (List Key × V))
 /-- a set of ints: its members,its size -/
 | set (S:Int→Bool) (n:Nat)
 /-- an instance of the class at C,its dict at dx,its attributes -/
 | ins (C dx:Addr) (fs:List (Str × V))
 /-- the dict of the instance at x -/
 | own (x:Addr)
 /-- the dict of an exception -/
 | xd (fs:List (Str × V))
 /-- a bound method,f of x -/
 | met (f x:Addr)
 /-- a range object lo,lo+1,.. below hi -/
 | rng (lo hi:Int)
 /-- a thing that is known to the object (the script;a dict while a loop walks it): read,never written while it is so -/
 | frz (o:Obj) (u:HO)
 /-- a code object's table -/
 | tbl (ps:Array Value)
 /-- any other thing,by what is true of its one object (a def of one's own: SetO a S n:=HO.ext λh=>..) -/
 | ext (φ:Heap→Prop)
abbrev Hp:=Addr→Option HO
def upd (H:Hp) (a:Addr) (o:HO):Hp:=λb=>if b=a then some o else H b
theorem zad {H:Hp}{a:Addr}{o:HO} : upd H a o a=some o:=by unfold upd;rw[if_pos rfl]
theorem zaj {H:Hp}{a b:Addr}{o:HO}(h:b≠a):upd H a o b=H b:=by unfold upd;rw[if_neg h]
theorem zlR {H:Hp}{a b:Addr}{o u:HO}(h:H a=some o) (h':H b=some u) (d:o≠u):a≠b:=by
 intro e;subst e;rw[h] at h';exact d (Option.some.inj h')
theorem zam {H:Hp}{a b:Addr}{o:HO}(h:H a=some o) (h':H b=none):a≠b:=by
 intro e;subst e;rw[h] at h';cases h'
section
variable (P : Program) (w : World)
def zbr (H:Hp) (h:Heap) (a:Addr):HO→Prop
 | .lst xs=>xs.length≤sizeLine∧∃ (its:List Value) (n:Nat),Vals xs its∧h.get? a=some {cls:=.type "list",data:=.seq its.toArray n}
 | .tup xs=>xs.length≤sizeLine∧∃ its:List Value,Vals xs its∧IsTup h a its.toArray
 | .dK kvs=>kvs.length≤sizeLine∧(a == sysModules)=false∧∃ vs,KV kvs vs∧h.DictOf (za9 P w) a vs
 | .dT kvs=>kvs.length≤sizeLine∧(a == sysModules)=false∧∃ xs:List (List Key × Addr × Value),
   Paired (λ(p:List Key × V) (q:List Key × Addr × Value)=>p.1=q.1∧H q.2.1=some (.tup (p.1.map kV))∧RelV p.2 q.2.2) kvs xs∧
   ∃ o es ep,h.get? a=some o∧o.ExactDict∧o.data=.dict es ep∧es.toList=xs.map (entryOfKey (tupleKind (za9 P w)))∧(xs.map (·.1)).Nodup
 | .set S n=>h.SetOf (intKind P w) a S n
 | .ins C dx fs=>H dx=some (.own a)∧fs.length≤1000∧dx≠a∧h.get? a=some (PySem.W.instObj C dx)∧
   ∃ mA,h.Ns1 dx mA∧(∀ f,RelO (fs.lookup f) (mA f))∧PySem.Within mA (fs.map (·.1))
 | .own _=>∃ o,h.get? a=some o
 | .xd fs=>∃ mA,h.Ns1 a mA∧∀ f,RelO (fs.lookup f) (mA f)
 | .rng lo hi=>∃ t u v,h.get? a=some {cls:=.type "range",data:=.fields #[.int lo t,.int hi u,.int 1 v]}
 | .frz o u=>h.get? a=some o∧zbr H h a u
 | .tbl ps=>h.get? a=some {cls:=.none,data:=.fields ps}
 | .met f x=>h.get? a=some (PySem.W.methodObj (.ref f) (.ref x))
 | .ext φ=>φ h∧(∃ o,h.get? a=some o)∧∀ h1 h2:Heap,φ h1→(∀ o,h1.get? a=some o→h2.get? a=some o)→φ h2
def HOk (H:Hp) (h:Heap):Prop:=∀ a o,H a=some o→zbr P w H h a o
end

section
variable {P : Program} {w : World} {H H' : Hp} {h h' : Heap} {a : Addr} {o : HO}
theorem zbr.lt (x:zbr P w H h a o):a<h.objs.size:=by
 cases o with
 | lst xs=>obtain⟨_,_,_,_,e⟩:=x;exact Heap.lt_size e
 | tup xs=>obtain⟨_,_,_,p⟩:=x;exact p.lt
 | dK kvs=>obtain⟨_,_,_,_,o,_,_,e,_⟩:=x;exact Heap.lt_size e
 | dT kvs=>obtain⟨_,_,_,_,o,_,_,e,_⟩:=x;exact Heap.lt_size e
 | set S n=>obtain⟨o,_,_,_,e,_⟩:=x;exact Heap.lt_size e
 | ins C dx fs=>obtain⟨_,_,_,e,_⟩:=x;exact Heap.lt_size e
 | own y=>obtain⟨_,e⟩:=x;exact Heap.lt_size e
 | xd fs=>obtain⟨_,⟨_,_,_,e,_⟩,_⟩:=x;exact Heap.lt_size e
 | rng lo hi=>obtain⟨_,_,_,e⟩:=x;exact Heap.lt_size e
 | frz ob u=>obtain⟨e,_⟩:=x;exact Heap.lt_size e
 | tbl ps=>exact Heap.lt_size (show h.get? a=some _ from x)
 | met f y=>exact Heap.lt_size (show h.get? a=some _ from x)
 | ext φ=>obtain⟨_,⟨_,e⟩,_⟩:=x;exact Heap.lt_size e
theorem Paired.mapP {α β:Type}{F G:α→β→Prop} : ∀ {l₁:List α}{l₂:List β},Paired F l₁ l₂→(∀ a b,F a b→G a b)→Paired G l₁ l₂
 | _,_,.nil,_=>.nil
 | _,_,.cons r t,f=>.cons (f _ _ r) (Paired.mapP t f)
theorem zbr.stay (x:zbr P w H h a o) (k:∀ b u,(b=a∨H b=some (.own a))→h.get? b=some u→h'.get? b=some u)
  (ho:∀ b,H b=some (.own a)→H' b=some (.own a)) (ht:∀ b xs,H b=some (.tup xs)→H' b=some (.tup xs)):zbr P w H' h' a o:=by
 induction o with
 | lst xs=>obtain⟨z,its,n,r,e⟩:=x;exact⟨z,its,n,r,k _ _ (.inl rfl) e⟩
 | tup xs=>obtain⟨z,its,r,ob,e,c⟩:=x;exact⟨z,its,r,ob,k _ _ (.inl rfl) e,c⟩
 | dK kvs=>obtain⟨z,y,vs,r,ob,es,ep,e,c⟩:=x;exact⟨z,y,vs,r,ob,es,ep,k _ _ (.inl rfl) e,c⟩
 | dT kvs=>
  obtain⟨z,y,xs,r,ob,es,ep,e,c⟩:=x
  exact⟨z,y,xs,Paired.mapP r λp q z=>⟨z.1,ht _ _ z.2.1,z.2.2⟩,ob,es,ep,k _ _ (.inl rfl) e,c⟩
 | set S n=>obtain⟨ob,es,ep,t,e,c⟩:=x;exact⟨ob,es,ep,t,k _ _ (.inl rfl) e,c⟩
 | ins C dx fs=>
  obtain⟨d,z,ne,e,mA,⟨od,es,ep,e2,c⟩,r⟩:=x
  exact⟨ho _ d,z,ne,k _ _ (.inl rfl) e,mA,⟨od,es,ep,k _ _ (.inr d) e2,c⟩,r⟩
 | own y=>obtain⟨ob,e⟩:=x;exact⟨ob,k _ _ (.inl rfl) e⟩
 | xd fs=>obtain⟨mA,⟨od,es,ep,e,c⟩,r⟩:=x;exact⟨mA,⟨od,es,ep,k _ _ (.inl rfl) e,c⟩,r⟩
 | rng lo hi=>obtain⟨t,u,v,e⟩:=x;exact⟨t,u,v,k _ _ (.inl rfl) e⟩
 | frz ob u ih=>obtain⟨e,q⟩:=x;exact⟨k _ _ (.inl rfl) e,ih q⟩
 | tbl ps=>
  have e:h.get? a=some {cls:=.none,data:=.fields ps}:=x
  show h'.get? a=some {cls:=.none,data:=.fields ps}
  exact k a _ (.inl rfl) e
 | met f y=>
  have e:h.get? a=some (PySem.W.methodObj (.ref f) (.ref y)):=x
  show h'.get? a=some (PySem.W.methodObj (.ref f) (.ref y))
  exact k a _ (.inl rfl) e
 | ext φ=>obtain⟨p,⟨o,e⟩,st⟩:=x;exact⟨st _ _ p λo q=>k _ _ (.inl rfl) q,⟨o,k _ _ (.inl rfl) e⟩,st⟩
theorem HOk.lt (x:HOk P w H h) (e:H a=some o):a<h.objs.size:=(x a o e).lt
theorem HOk.fresh (x:HOk P w H h) (e:h.objs.size≤a):H a=none:=by
 cases q:H a with
 | none=>rfl
 | some u=>exact absurd (Nat.lt_of_lt_of_le (x.lt q) e) (Nat.lt_irrefl _)
theorem HOk.kept (x:HOk P w H h) (k:∀ b u,h.get? b=some u→h'.get? b=some u):HOk P w H h':=λa o e=>
 (x a o e).stay (λb u _ q=>k b u q) (λ_ q=>q) λ_ _ q=>q
theorem HOk.laid (x:HOk P w H h) (k:∀ b u,h.get? b=some u→h'.get? b=some u) (hp:h.objs.size≤a) (new:zbr P w (upd H a o) h' a o):HOk P w (upd H a o) h':=λb u e=>by
 have hn:=x.fresh hp
 by_cases hb:b=a
 ·subst hb;rw[zad] at e;cases e;exact new
 ·rw[zaj hb] at e
  exact (x b u e).stay (λc v _ q=>k c v q) (λc q=>by rw[zaj (zam q hn)];exact q) λc xs q=>by rw[zaj (zam q hn)];exact q
end

def Rd (H:Hp) (a:Addr) (u:HO):Prop:=H a=some u∨∃ o,H a=some (.frz o u)
theorem Rd.ok {P:Program}{w:World}{H:Hp}{h:Heap}{a:Addr}{u:HO}(r:Rd H a u) (x:HOk P w H h):zbr P w H h a u:=by
 rcases r with r | ⟨o,r⟩
 ·exact x a u r
 ·obtain⟨_,q⟩:=x a _ r
  exact q
def Mut:Option HO→Prop
 | some (.lst _)=>True
 | some (.dK _)=>True
 | some (.dT _)=>True
 | some (.set _ _)=>True
 | some (.ins _ _ _)=>True
 | some (.ext _)=>True
 | _=>False
section
variable {P : Program} {w : World} {H : Hp} {h h' : Heap} {x e : Addr} {o' : HO}
theorem HOk.write (ok:HOk P w H h) (mu:Mut (H x)) (he:e=x∨H e=some (.own x)) (k:∀ b u,b≠e→h.get? b=some u→h'.get? b=some u) (heo:∃ u,h'.get? e=some u)
  (new:zbr P w (upd H x o') h' x o'):HOk P w (upd H x o') h':=λb u q=>by
 have nown:∀ c y,H c=some (.own y)→c≠x:=λc y r z=>by subst z;rw[r] at mu;exact mu
 have ntup:∀ c xs,H c=some (.tup xs)→c≠x:=λc xs r z=>by subst z;rw[r] at mu;exact mu
 by_cases hb:b=x
 ·subst hb;rw[zad] at q;cases q;exact new
 ·rw[zaj hb] at q
  by_cases hbe:b=e
  ·have q':H b=some (.own x):=by
    rcases he with z | z
    ·exact absurd (hbe.trans z) hb
    ·rw[hbe];exact z
   rw[q] at q';cases q'
   obtain⟨v,hv⟩:=heo
   exact⟨v,by rw[hbe];exact hv⟩
  ·refine (ok b u q).stay (λc v hc r=>k c v ?_ r) (λc r=>by rw[zaj (nown c b r)];exact r) λc xs r=>by rw[zaj (ntup c xs r)];exact r
   rcases hc with rfl | hc
   ·exact hbe
   ·rintro rfl
    rcases he with z | z
    ·exact nown c b hc z
    ·rw[hc] at z;cases z;exact hb rfl
end

structure Un (fs ex:List Addr) (H H':Hp) (h h':Heap):Prop where
 keep:∀ b o,h.get? b=some o→H b=none→b∉fs→b∉ex→h'.get? b=some o
 slot:∀ b o,h.get? b=some o→H b=none→b∈fs→b∉ex→∃ sl,h'.get? b=some {o with slots:=sl}
 free:∀ b o,h.get? b=some o→H b=none→b∉ex→H' b=none
 there:∀ b o,h.get? b=some o→b∉ex→∃ o',h'.get? b=some o'
 tups:∀ b xs,H b=some (.tup xs)→H' b=some (.tup xs)
 frzs:∀ b o u,H b=some (.frz o u)→H' b=some (.frz o u)
 tbls:∀ b ps,H b=some (.tbl ps)→∃ more,H' b=some (.tbl (ps++more))
section
variable {fs fs' ex ex' : List Addr} {H H1 H2 : Hp} {h h1 h2 h' : Heap} {a x e : Addr} {o : HO}
theorem Un.any (u:Un fs ex H H1 h h1) {b:Addr}{ob:Obj}(q:h.get? b=some ob) (n:H b=none) (hx:b∉ex):∃ sl,h1.get? b=some {ob with slots:=sl}:=by
 by_cases hb:b∈fs
 ·exact u.slot b ob q n hb hx
 ·exact⟨ob.slots,u.keep b ob q n hb hx⟩
theorem Un.kept (k:∀ b u,h.get? b=some u→h'.get? b=some u):Un fs ex H H h h':=
 ⟨λb ob q _ _ _=>k b ob q,λb ob q _ _ _=>⟨ob.slots,k b ob q⟩,λ_ _ _ n _=>n,λb ob q _=>⟨ob,k b ob q⟩,λ_ _ q=>q,λ_ _ _ q=>q,λ_ ps q=>⟨#[],by rw[q];simp⟩⟩
theorem Un.refl:Un fs ex H H h h:=Un.kept λ_ _ q=>q
theorem Un.laid (k:∀ b u,h.get? b=some u→h'.get? b=some u) (hp:h.objs.size≤a) (hn:H a=none):Un fs ex H (upd H a o) h h' where
 keep:=λb u q _ _ _=>k b u q
 slot:=λb u q _ _ _=>⟨u.slots,k b u q⟩
 free:=λb u q n _=>by rw[zaj (Nat.ne_of_lt (Nat.lt_of_lt_of_le (Heap.lt_size q) hp))];exact n
 there:=λb u q _=>⟨u,k b u q⟩
 tups:=λb xs q=>by rw[zaj (zam q hn)];exact q
 frzs:=λb u xs q=>by rw[zaj (zam q hn)];exact q
 tbls:=λb ps q=>⟨#[],by rw[zaj (zam q hn),q];simp⟩
theorem Un.write (mu:Mut (H x)) (he:e=x∨H e=some (.own x)) (k:∀ b u,b≠e→h.get? b=some u→h'.get? b=some u) (heo:∃ u,h'.get? e=some u):Un fs ex H (upd H x o) h h':=by
 have hx:∀ b,H b=none→b≠x:=λb n z=>by subst z;rw[n] at mu;exact mu
 have hb:∀ b,H b=none→b≠e:=λb n z=>by
  subst z
  rcases he with r | r
  ·exact hx b n r
  ·rw[n] at r;cases r
 have hm:∀ b u,H b=some u→¬ Mut (some u)→b≠x:=λb u q nm z=>by subst z;rw[q] at mu;exact nm mu
 refine⟨λb u q n _ _=>k b u (hb b n) q,λb u q n _ _=>⟨u.slots,k b u (hb b n) q⟩,λb u q n _=>by rw[zaj (hx b n)];exact n,λb u q _=>?_,
  λb xs q=>by rw[zaj (hm b _ q λz=>z)];exact q,λb u xs q=>by rw[zaj (hm b _ q λz=>z)];exact q,λb ps q=>⟨#[],by rw[zaj (hm b _ q λz=>z),q];simp⟩⟩
 by_cases hbe:b=e
 ·subst hbe;exact heo
 ·exact⟨u,k b u hbe q⟩
end

def trk (h:Heap) (H:Hp):List Addr:=(List.range h.objs.size).filter λa=>(H a).isSome
def hidT (h:Heap) (H:Hp):Heap:=PySem.W.hideAll h (trk h H)
theorem zkq (h:Heap) (H:Hp):(hidT h H).objs.size=h.objs.size:=PySem.W.hideAll_size _ _
theorem zlS {h:Heap}{H:Hp}{b:Addr}{o:Obj}(e:h.get? b=some o) (n:H b=none):(hidT h H).get? b=some o:=
 PySem.W.hideAll_get _ e λhm=>by
  have q:(H b).isSome=true:=(List.mem_filter.mp hm).2
  rw[n] at q;simp at q
theorem znt {h:Heap}{H:Hp}{b:Addr}{o:Obj}(e:(hidT h H).get? b=some o):h.get? b=some o∧H b=none:=by
 have e':h.get? b=some o:=PySem.W.of_hideAll (trk h H) e
 refine⟨e',?_⟩
 cases q:H b with
 | none=>rfl
 | some x=>
  have hm:b∈trk h H:=List.mem_filter.mpr ⟨List.mem_range.mpr (Heap.lt_size e'),by simp[q]⟩
  have z:(hidT h H).get? b=none:=PySem.W.hideAll_none (trk h H) hm
  rw[z] at e;cases e
end L2

namespace L2
open PySem PySem.Spec PyProof.Rows

structure Mod (K:Fg) (mg:Str→Option Value) (base:Heap):Prop where
 kin:K.In base
 glob:base.Ns mainGlobals mg
 blt:∃ mb,base.Ns builtinsNs mb∧∀ x:Str,x≠ "__name__" →mb x=bootBuiltins x
 nolimit:base.NoLimit
structure Cx where
 prog:Program
 w:World
 K:Fg
 mg:Str→Option Value
 base:Heap
 A:Around
 N:List Str
 s₀:Shared
 H₀:Hp
 env:Env
 outer:List Env
 stack:List Env
 ex:List Addr
 fn:Str→Bool
 calm:Bool
 pn:List (Addr × Obj)
 xe:Value→Shared→Prop
def frs (l:List Env):List Addr:=l.filterMap (·.frame)
abbrev Cx.fs (X:Cx):List Addr:=frs X.outer
def Vis (sc:Scope) (x:Str):Prop:=sc.names.lookup x=some .local∨sc.names.lookup x=some .cell∨sc.names.lookup x=some .free
def Loc (sc:Scope) (x:Str):Prop:=sc.names.lookup x=some .local∨sc.names.lookup x=some .cell
def Look (env:Env) (h:Heap) (m:Str→Option Value) (x:Str) (u:Value):Prop:=
 (env.kindOf x=some .local∧m x=some u)∨((env.kindOf x=some .cell∨env.kindOf x=some .free)∧∃ c,env.cells.lookup x=some c∧h.IsCell c (some u))
structure Cx.Ok (X:Cx):Prop where
 mod:Mod X.K X.mg X.base
 kind:X.env.scope.kind=.function
 glob:X.env.globals=mainGlobals
 blt:X.env.builtins=builtinsNs
 above:X.s₀.heap.objs.size≤X.env.locals
 inj:∀ x y c,X.env.cells.lookup x=some c→X.env.cells.lookup y=some c→x=y
 has:∀ x,(X.env.kindOf x=some .cell∨X.env.kindOf x=some .free)→∃ c,X.env.cells.lookup x=some c
 cab:∀ x c,X.fn x=true→X.env.cells.lookup x=some c→X.s₀.heap.objs.size≤c
 hd:X.calm=true→X.A.handled=none
 frames:X.A.frames=some X.stack
 stk:X.stack=X.outer∨(X.stack=X.env::X.outer∧X.env.frame=some X.env.locals)
 exf:∀ b∈X.ex,b≠X.env.locals∧∀ x c,X.env.cells.lookup x=some c→c≠b
 bs:∀ b o,X.base.get? b=some o→X.s₀.heap.get? b=some o∧X.H₀ b=none
 bsz:X.base.objs.size≤X.s₀.heap.objs.size
 noex:∀ b o,X.base.get? b=some o→b∉X.ex
 exfs:∀ b∈X.ex,b∉X.fs
 funs:X.s₀.heap.FunFrames X.base X.outer
 frf:∀ b∈X.fs,X.H₀ b=none
structure Inv (X:Cx) (pins:List (Addr × Obj)) (σ:List (Option V)) (H:Hp) (s:Shared):Prop where
 ok:X.Ok
 os:s.os=X.s₀.os
 bare:AllBare s.gens
 base:Un X.fs X.ex X.H₀ H X.s₀.heap s.heap
 loc:∃ m,s.heap.Ns X.env.locals m∧∀ (i:Nat) (x:Str) (v:V),X.N[i]?=some x→σ[i]?=some (some v)→Vis X.env.scope x→∃ u,RelV v u∧Look X.env s.heap m x u
 cell:∀ x c,X.env.cells.lookup x=some c→∃ v,s.heap.IsCell c v
 free:H X.env.locals=none
 freeC:∀ x c,X.env.cells.lookup x=some c→H c=none
 pin:∀ p∈X.pn++pins,s.heap.get? p.1=some p.2∧H p.1=none∧p.1≠X.env.locals∧p.1∉X.fs∧∀ v,p.2.data≠.cell v
 hok:HOk X.prog X.w H s.heap
 len:σ.length=X.N.length
section
variable {X : Cx} {pins : List (Addr × Obj)} {σ : List (Option V)} {H H' : Hp} {s : Shared} {h' : Heap}

theorem Cx.Ok.nofr (ok:X.Ok) {b:Addr}{o:Obj}(e:X.base.get? b=some o):b∉X.fs:=λhb=>by
 have:=(ok.funs.mem hb).1
 rw[e] at this;cases this
theorem Inv.bs (I:Inv X pins σ H s):∀ b o,X.base.get? b=some o→s.heap.get? b=some o∧H b=none:=λb o e=>
 ⟨I.base.keep b o (I.ok.bs b o e).1 (I.ok.bs b o e).2 (I.ok.nofr e) (I.ok.noex b o e),I.base.free b o (I.ok.bs b o e).1 (I.ok.bs b o e).2 (I.ok.noex b o e)⟩
theorem Inv.bk (I:Inv X pins σ H s):∀ b o,X.base.get? b=some o→s.heap.get? b=some o:=λb o e=>(I.bs b o e).1
theorem Inv.mod (I:Inv X pins σ H s):Mod X.K X.mg X.base:=I.ok.mod
theorem Inv.kIn (I:Inv X pins σ H s):X.K.In s.heap:=I.ok.mod.kin.keeps I.bk
theorem Inv.lt (I:Inv X pins σ H s):X.env.locals<s.heap.objs.size:=let ⟨_,hn,_⟩:=I.loc;hn.lt
theorem Inv.sz (I:Inv X pins σ H s):X.s₀.heap.objs.size≤s.heap.objs.size:=Nat.le_trans I.ok.above (Nat.le_of_lt I.lt)
theorem Inv.nofs (I:Inv X pins σ H s) {a:Addr}(h:s.heap.objs.size≤a):a∉X.fs:=λhb=>by
 obtain⟨_,o,ho,_⟩:=I.ok.funs.mem hb
 exact absurd (Nat.lt_of_lt_of_le (Heap.lt_size ho) (Nat.le_trans I.sz h)) (Nat.lt_irrefl _)
theorem Inv.cne (I:Inv X pins σ H s):∀ x c,X.env.cells.lookup x=some c→c≠X.env.locals:=λx c e z=>by
 obtain⟨v,o,ho,hd⟩:=I.cell x c e
 obtain⟨m,⟨o',es,ep,ho',hd',_⟩,_⟩:=I.loc
 rw[z,ho'] at ho;cases ho;rw[hd'] at hd;cases hd
theorem Inv.funs (I:Inv X pins σ H s):s.heap.FunFrames X.base X.outer:=by
 have all:∀ (l:List Env),(∀ b∈frs l,b∈X.fs)→X.s₀.heap.FunFrames X.base l→s.heap.FunFrames X.base l:=by
  intro l
  induction l with
  | nil=>intro _ _;trivial
  | cons env r ih=>
   intro hs hl
   obtain⟨hk,⟨L,o,hf,hn,ho,hd⟩,hr⟩:=hl
   have hL:L∈X.fs:=hs L (by unfold frs;rw[List.filterMap_cons,hf];exact List.mem_cons_self)
   obtain⟨sl,e⟩:=I.base.slot L o ho (I.ok.frf L hL) hL λz=>I.ok.exfs L z hL
   exact⟨hk,⟨L,_,hf,hn,e,hd⟩,ih (λb hb=>hs b (by unfold frs;rw[List.filterMap_cons,hf];exact List.mem_cons_of_mem _ hb)) hr⟩
 exact all X.outer (λ_ hb=>hb) I.ok.funs
theorem Inv.stack (I:Inv X pins σ H s):s.heap.FunFrames X.base X.stack:=by
 rcases I.ok.stk with e | ⟨e,hf⟩
 ·rw[e];exact I.funs
 ·rw[e]
  obtain⟨m,hn,_⟩:=I.loc
  refine .cons (by rw[I.ok.kind];decide) hf hn ?_ I.funs
  exact Heap.get?_none_of_le (Nat.le_trans I.ok.bsz I.ok.above)
theorem Inv.stkSub (I:Inv X pins σ H s):∀ b∈frs X.stack,b∈X.env.locals::X.fs:=λb hb=>by
 rcases I.ok.stk with e | ⟨e,hf⟩
 ·rw[e] at hb;exact List.mem_cons_of_mem _ hb
 ·rw[e] at hb
  unfold frs at hb
  rw[List.filterMap_cons,hf] at hb
  exact hb
theorem Inv.stkFree (I:Inv X pins σ H s):∀ b∈frs X.stack,H b=none:=λb hb=>by
 rcases List.mem_cons.mp (I.stkSub b hb) with e | hb
 ·rw[e];exact I.free
 ·obtain⟨_,o,ho,_⟩:=I.ok.funs.mem hb
  exact I.base.free b o ho (I.ok.frf b hb) λz=>I.ok.exfs b z hb
theorem Inv.step {g':Array GenState}{t':Nat}{d':Drawn}{ch:List Addr}(I:Inv X pins σ H s)
  (hch:∀ b∈ch,(b∈X.ex∨X.s₀.heap.objs.size≤b)∧b≠X.env.locals∧(∀ x c,X.env.cells.lookup x=some c→c≠b)∧∀ p∈X.pn++pins,p.1≠b)
  (keep:∀ b o,b≠X.env.locals→b∉X.fs→b∉ch→s.heap.get? b=some o→H b=none→h'.get? b=some o)
  (slot:∀ b o,b≠X.env.locals→b∈X.fs→b∉ch→s.heap.get? b=some o→H b=none→∃ sl,h'.get? b=some {o with slots:=sl}) (free:∀ b o,b∉ch→s.heap.get? b=some o→H b=none→H' b=none)
  (there:∀ b o,b∉ch→s.heap.get? b=some o→∃ o',h'.get? b=some o')
  (tups:∀ b xs,H b=some (.tup xs)→H' b=some (.tup xs)) (frzs:∀ b o u,H b=some (.frz o u)→H' b=some (.frz o u)) (tbls:∀ b ps,H b=some (.tbl ps)→∃ more,H' b=some (.tbl (ps++more)))
  (ns:∀ m,s.heap.Ns X.env.locals m→h'.Ns X.env.locals m) (hok:HOk X.prog X.w H' h') (hg:AllBare g') :
  Inv X pins σ H' {s with heap:=h',gens:=g',drawn:=d',toks:=t'}:=by
 have neL:∀ b o,X.s₀.heap.get? b=some o→b≠X.env.locals:=λb o e=>Nat.ne_of_lt (Nat.lt_of_lt_of_le (Heap.lt_size e) I.ok.above)
 have neC:∀ b o,X.s₀.heap.get? b=some o→b∉X.ex→b∉ch:=λb o e hx hb=>by
  rcases (hch b hb).1 with z | z
  ·exact hx z
  ·exact absurd (Nat.lt_of_lt_of_le (Heap.lt_size e) z) (Nat.lt_irrefl _)
 have cellK:∀ x c,X.env.cells.lookup x=some c→∀ v,s.heap.IsCell c v→h'.IsCell c v:=λx c e v ⟨o,ho,hd⟩=>by
  have nch:c∉ch:=λz=>(hch c z).2.2.1 x c e rfl
  by_cases hc:c∈X.fs
  ·obtain⟨sl,q⟩:=slot c o (I.cne x c e) hc nch ho (I.freeC x c e)
   exact⟨_,q,hd⟩
  ·exact⟨o,keep c o (I.cne x c e) hc nch ho (I.freeC x c e),hd⟩
 refine⟨I.ok,I.os,hg,⟨λb o e n hb hx=>?_,λb o e n hb hx=>?_,λb o e n hx=>?_,λb o e hx=>?_,λb xs e=>tups b xs (I.base.tups b xs e),λb o xs e=>frzs b o xs (I.base.frzs b o xs e),λb ps e=>?_⟩,?_,λx c e=>?_,?_,λx c e=>?_,λp hp=>?_,hok,I.len⟩
 ·exact keep b o (neL b o e) hb (neC b o e hx) (I.base.keep b o e n hb hx) (I.base.free b o e n hx)
 ·obtain⟨sl,e1⟩:=I.base.slot b o e n hb hx
  obtain⟨sl',e2⟩:=slot b _ (neL b o e) hb (neC b o e hx) e1 (I.base.free b o e n hx)
  exact⟨sl',e2⟩
 ·obtain⟨o',e1⟩:=I.base.there b o e hx
  exact free b o' (neC b o e hx) e1 (I.base.free b o e n hx)
 ·obtain⟨o',e1⟩:=I.base.there b o e hx
  exact there b o' (neC b o e hx) e1
 ·obtain⟨m1,e1⟩:=I.base.tbls b ps e
  obtain⟨m2,e2⟩:=tbls b _ e1
  exact⟨m1++m2,by rw[e2,Array.append_assoc]⟩
 ·obtain⟨m,hn,hl⟩:=I.loc
  refine⟨m,ns m hn,λi x v e1 e2 e3=>?_⟩
  obtain⟨u,r,l⟩:=hl i x v e1 e2 e3
  refine⟨u,r,?_⟩
  rcases l with l | ⟨k,c,e,z⟩
  ·exact .inl l
  ·exact .inr ⟨k,c,e,cellK x c e _ z⟩
 ·obtain⟨v,z⟩:=I.cell x c e
  exact⟨v,cellK x c e v z⟩
 ·obtain⟨m,⟨o,_,_,ho,_⟩,_⟩:=I.loc
  exact free _ o (λz=>(hch _ z).2.1 rfl) ho I.free
 ·obtain⟨v,o,ho,hd⟩:=I.cell x c e
  exact free c o (λz=>(hch c z).2.2.1 x c e rfl) ho (I.freeC x c e)
 ·obtain⟨e,n,ne,nf,d⟩:=I.pin p hp
  have nch:p.1∉ch:=λz=>(hch p.1 z).2.2.2 p hp rfl
  exact⟨keep p.1 p.2 ne nf nch e n,free p.1 p.2 nch e n,ne,nf,d⟩
theorem Inv.un {t':Nat}(I:Inv X pins σ H s) (u:Un X.fs [] H H' s.heap h') (hok:HOk X.prog X.w H' h'):Inv X pins σ H' {s with heap:=h',toks:=t'}:=by
 obtain⟨m,⟨o,es,ep,ho,r⟩,_⟩:=id I.loc
 obtain⟨sl,hL⟩:=u.any ho I.free (by simp)
 exact I.step (g':=s.gens) (d':=s.drawn) (ch:=[]) (λ_ z=>nomatch z) (λb o _ hb _ e n=>u.keep b o e n hb (by simp)) (λb o _ hb _ e n=>u.slot b o e n hb (by simp)) (λb o _ e n=>u.free b o e n (by simp)) (λb o _ e=>u.there b o e (by simp)) u.tups u.frzs u.tbls (λm' hm=>by
  obtain⟨o',es',ep',ho',r'⟩:=hm
  rw[ho] at ho';cases ho'
  exact⟨_,es',ep',hL,r'⟩) hok I.bare
theorem Inv.call {g':Array GenState}{t':Nat}{d':Drawn}{ch:List Addr}(I:Inv X pins σ H s) (u:Un (frs X.stack) ch H H' s.heap h') (hok:HOk X.prog X.w H' h') (hg:AllBare g')
  (hch:∀ b∈ch,(b∈X.ex∨X.s₀.heap.objs.size≤b)∧b≠X.env.locals∧(∀ x c,X.env.cells.lookup x=some c→c≠b)∧∀ p∈X.pn++pins,p.1≠b) :
  Inv X pins σ H' {s with heap:=h',gens:=g',drawn:=d',toks:=t'}:=by
 obtain⟨m,⟨o,es,ep,ho,r⟩,_⟩:=id I.loc
 obtain⟨sl,hL⟩:=u.any ho I.free λz=>(hch _ z).2.1 rfl
 exact I.step (ch:=ch) hch (λb o hL hb hc e n=>u.keep b o e n (λz=>(List.mem_cons.mp (I.stkSub b z)).elim hL hb) hc) (λb o _ _ hc e n=>u.any e n hc) (λb o hc e n=>u.free b o e n hc) (λb o hc e=>u.there b o e hc) u.tups u.frzs u.tbls (λm' hm=>by
  obtain⟨o',es',ep',ho',r'⟩:=hm
  rw[ho] at ho';cases ho'
  exact⟨_,es',ep',hL,r'⟩) hok hg
theorem Inv.turned {t':Nat}{it:Addr}(I:Inv X pins σ H s) (k:∀ b o,b≠it→s.heap.get? b=some o→h'.get? b=some o) (hn:H it=none) (hL:it≠X.env.locals)
  (h1:it∈X.ex∨X.s₀.heap.objs.size≤it) (h2:∀ x c,X.env.cells.lookup x=some c→c≠it) (h3:∀ p∈X.pn++pins,p.1≠it):Inv X pins σ H {s with heap:=h',toks:=t'}:=by
 have nit:∀ b u,H b=some u→b≠it:=λb u e z=>by rw[z,hn] at e;cases e
 refine I.step (g':=s.gens) (d':=s.drawn) (ch:=[it]) (λb hb=>?_) (λb o _ _ hc e _=>k b o (λz=>hc (by simp[z])) e) (λb o _ _ hc e _=>⟨o.slots,k b o (λz=>hc (by simp[z])) e⟩) (λ_ _ _ _ n=>n)
  (λb o hc e=>⟨o,k b o (λz=>hc (by simp[z])) e⟩) (λ_ _ e=>e) (λ_ _ _ e=>e) (λb ps e=>⟨#[],by rw[e];simp⟩) (λm hm=>?_) (λb u e=>?_) I.bare
 ·have e:b=it:=by simpa using hb
  subst e
  exact⟨h1,hL,h2,h3⟩
 ·obtain⟨o,es,ep,ho,r⟩:=hm
  exact⟨o,es,ep,k _ o (Ne.symm hL) ho,r⟩
 ·refine (I.hok b u e).stay (λc v hc q=>k c v ?_ q) (λ_ q=>q) λ_ _ q=>q
  rcases hc with z | z
  ·rw[z];exact nit b u e
  ·exact nit c _ z
theorem Inv.tok (I:Inv X pins σ H s) (t:Nat):Inv X pins σ H {s with toks:=t}:=I.un (h':=s.heap) (t':=t) Un.refl I.hok
theorem Inv.kept {t':Nat}(I:Inv X pins σ H s) (k:∀ b u,s.heap.get? b=some u→h'.get? b=some u):Inv X pins σ H {s with heap:=h',toks:=t'}:=I.un (Un.kept k) (I.hok.kept k)
theorem Inv.laid {a:Addr}{o:HO}{t':Nat}(I:Inv X pins σ H s) (k:∀ b u,s.heap.get? b=some u→h'.get? b=some u) (hp:s.heap.objs.size≤a) (new:zbr X.prog X.w (upd H a o) h' a o) :
  Inv X pins σ (upd H a o) {s with heap:=h',toks:=t'}:=I.un (Un.laid k hp (I.hok.fresh hp)) (I.hok.laid k hp new)
theorem Inv.write {x e:Addr}{o:HO}{t':Nat}(I:Inv X pins σ H s) (mu:Mut (H x)) (he:e=x∨H e=some (.own x)) (k:∀ b u,b≠e→s.heap.get? b=some u→h'.get? b=some u) (heo:∃ u,h'.get? e=some u)
  (new:zbr X.prog X.w (upd H x o) h' x o):Inv X pins σ (upd H x o) {s with heap:=h',toks:=t'}:=I.un (Un.write mu he k heo) (I.hok.write mu he k heo new)
theorem Inv.pins_of {pins':List (Addr × Obj)}(I:Inv X pins σ H s) (h:∀ p∈pins',s.heap.get? p.1=some p.2∧H p.1=none∧p.1≠X.env.locals∧p.1∉X.fs∧∀ v,p.2.data≠.cell v):Inv X pins' σ H s:=
 ⟨I.ok,I.os,I.bare,I.base,I.loc,I.cell,I.free,I.freeC,λp hp=>(zma.mp hp).elim (λz=>I.pin p (List.mem_append_left _ z)) (h p),I.hok,I.len⟩
theorem zgy {N:List Str}(hN:N.Nodup) {i j:Nat}{x:Str}(a:N[i]?=some x) (b:N[j]?=some x):i=j:=by
 obtain⟨h1,e1⟩:=zge.mp a
 obtain⟨h2,e2⟩:=zge.mp b
 exact (List.getElem_inj hN).mp (e1.trans e2.symm)
theorem zg4 {M:Model}{A:Around}{E:Value→Shared→Prop}{i:Nat}{x:Str}{v:V}{u:Value}{Q:Unit→Shared→Prop}(I:Inv X pins σ H s) (hN:X.N.Nodup) (hi:X.N[i]?=some x) (hx:Loc X.env.scope x) (r:RelV v u)
  (h:∀ s',Inv X pins (σ.set i (some v)) H s'→(∃ a,Heap.SameBut a s.heap s'.heap∧(a=X.env.locals∨X.env.cells.lookup x=some a))→Q () s') (hf:X.fn x=true∨X.env.scope.names.lookup x=some .local:=by first | exact .inl rfl | exact .inr rfl | assumption):wpAny M A (storeName X.env x u) Q E s:=by
 obtain⟨m,hn,hl⟩:=id I.loc
 have hcls:(X.env.scope.kind == .class || (X.env.scope.kind == .module && X.env.locals != X.env.globals))=false:=by rw[I.ok.kind];rfl
 have hiσ:i<σ.length:=by rw[I.len];exact (zge.mp hi).1
 have cne:=I.cne
 have tracked:∀ {a:Addr}{h':Heap},(∃ o,s.heap.get? a=some o∧H a=none)→Heap.SameBut a s.heap h'→HOk X.prog X.w H h':=λ{a h'} ha hs b ob e=>by
  obtain⟨_,_,hfree⟩:=ha
  refine (I.hok b ob e).stay (λc w' hc q=>(hs.2 c ?_).trans q) (λ_ q=>q) λ_ _ q=>q
  rintro rfl
  rcases hc with rfl | hc
  ·rw[hfree] at e;cases e
  ·rw[hfree] at hc;cases hc
 rcases hx with hk | hk
 ·refine wpAny_storeName_local hk hn (λh' hn' hs=>?_) hcls
  obtain⟨oL,_,_,hoL,_⟩:=id hn
  refine h _ ⟨I.ok,I.os,I.bare,⟨λb o e n hb hx=>?_,λb o e n hb hx=>?_,I.base.free,λb o e hx=>?_,I.base.tups,I.base.frzs,I.base.tbls⟩,⟨_,hn',λj y v' e1 e2 e3=>?_⟩,λy c e=>?_,I.free,I.freeC,λp hp=>?_,tracked ⟨oL,hoL,I.free⟩ hs,by simpa using I.len⟩ ⟨_,hs,.inl rfl⟩
  ·exact (hs.2 b (Nat.ne_of_lt (Nat.lt_of_lt_of_le (Heap.lt_size e) I.ok.above))).trans (I.base.keep b o e n hb hx)
  ·obtain⟨sl,e1⟩:=I.base.slot b o e n hb hx
   exact⟨sl,(hs.2 b (Nat.ne_of_lt (Nat.lt_of_lt_of_le (Heap.lt_size e) I.ok.above))).trans e1⟩
  ·obtain⟨o',e1⟩:=I.base.there b o e hx
   exact⟨o',(hs.2 b (Nat.ne_of_lt (Nat.lt_of_lt_of_le (Heap.lt_size e) I.ok.above))).trans e1⟩
  ·by_cases hj:j=i
   ·subst hj
    rw[hi] at e1;cases e1
    rw[List.getElem?_set_self hiσ] at e2
    cases e2
    exact⟨u,r,.inl ⟨hk,by simp⟩⟩
   ·rw[List.getElem?_set_ne (Ne.symm hj)] at e2
    obtain⟨u',r',q⟩:=hl j y v' e1 e2 e3
    refine⟨u',r',?_⟩
    rcases q with ⟨k,e⟩ | ⟨k,c,e,z⟩
    ·refine .inl ⟨k,?_⟩
     have:y≠x:=λe=>hj (zgy hN e1 (e ▸ hi))
     simp[this,e]
    ·exact .inr ⟨k,c,e,z.sameBut hs (cne y c e)⟩
  ·obtain⟨w',z⟩:=I.cell y c e
   exact⟨w',z.sameBut hs (cne y c e)⟩
  ·obtain⟨e,n,ne,nf,d⟩:=I.pin p hp
   exact⟨(hs.2 p.1 ne).trans e,n,ne,nf,d⟩
 ·have hfn:X.fn x=true:=by
   rcases hf with z | z
   ·exact z
   ·rw[z] at hk;cases hk
  obtain⟨c,hc⟩:=I.ok.has x (.inl hk)
  obtain⟨w',z⟩:=I.cell x c hc
  refine wpAny_storeName_cell I.ok.kind hk hc z (λh' hc' hs=>?_)
  obtain⟨oc,hoc,hocd⟩:=id z
  refine h {s with heap:=h'} ⟨I.ok,I.os,I.bare,⟨λb o e n hb hx=>?_,λb o e n hb hx=>?_,I.base.free,λb o e hx=>?_,I.base.tups,I.base.frzs,I.base.tbls⟩,⟨m,hn.sameBut hs (Ne.symm (cne x c hc)),λj y v' e1 e2 e3=>?_⟩,λy c' e=>?_,I.free,I.freeC,λp hp=>?_,tracked ⟨oc,hoc,I.freeC x c hc⟩ hs,by simpa using I.len⟩ ⟨c,hs,.inr hc⟩
  ·exact (hs.2 b (Nat.ne_of_lt (Nat.lt_of_lt_of_le (Heap.lt_size e) (I.ok.cab x c hfn hc)))).trans (I.base.keep b o e n hb hx)
  ·obtain⟨sl,e1⟩:=I.base.slot b o e n hb hx
   exact⟨sl,(hs.2 b (Nat.ne_of_lt (Nat.lt_of_lt_of_le (Heap.lt_size e) (I.ok.cab x c hfn hc)))).trans e1⟩
  ·obtain⟨o',e1⟩:=I.base.there b o e hx
   exact⟨o',(hs.2 b (Nat.ne_of_lt (Nat.lt_of_lt_of_le (Heap.lt_size e) (I.ok.cab x c hfn hc)))).trans e1⟩
  ·by_cases hj:j=i
   ·subst hj
    rw[hi] at e1;cases e1
    rw[List.getElem?_set_self hiσ] at e2
    cases e2
    exact⟨u,r,.inr ⟨.inl hk,c,hc,hc'⟩⟩
   ·rw[List.getElem?_set_ne (Ne.symm hj)] at e2
    obtain⟨u',r',q⟩:=hl j y v' e1 e2 e3
    refine⟨u',r',?_⟩
    rcases q with q | ⟨k,c',e,z'⟩
    ·exact .inl q
    ·refine .inr ⟨k,c',e,z'.sameBut hs ?_⟩
     rintro rfl
     exact hj (zgy hN e1 (I.ok.inj _ _ _ e hc ▸ hi))
  ·by_cases hcc:c'=c
   ·subst hcc;exact⟨_,hc'⟩
   ·obtain⟨w2,z2⟩:=I.cell y c' e
    exact⟨w2,z2.sameBut hs hcc⟩
  ·obtain⟨e,n,ne,nf,d⟩:=I.pin p hp
   refine⟨(hs.2 p.1 ?_).trans e,n,ne,nf,d⟩
   intro q
   rw[q,hoc] at e
   have q':oc=p.2:=Option.some.inj e
   exact d w' (by rw[←q'];exact hocd)
theorem ze2 {M:Model}{A:Around}{E:Value→Shared→Prop}{i:Nat}{x:Str}{v:V}{u:Value}{Q:Unit→Shared→Prop}(I:Inv X pins σ H s) (hN:X.N.Nodup) (hi:X.N[i]?=some x) (hx:Loc X.env.scope x) (r:RelV v u)
  (h:∀ s',Inv X pins (σ.set i (some v)) H s'→Q () s') (hf:X.fn x=true∨X.env.scope.names.lookup x=some .local:=by first | exact .inl rfl | exact .inr rfl | assumption):wpAny M A (storeName X.env x u) Q E s:=
 zg4 I hN hi hx r (λs' I' _=>h s' I') hf
theorem Inv.call' {s':Shared}{ch:List Addr}(I:Inv X pins σ H s) (ho:s'.os=s.os) (u:Un (frs X.stack) ch H H' s.heap s'.heap) (hok:HOk X.prog X.w H' s'.heap) (hg:AllBare s'.gens)
  (hch:∀ b∈ch,(b∈X.ex∨X.s₀.heap.objs.size≤b)∧b≠X.env.locals∧(∀ x c,X.env.cells.lookup x=some c→c≠b)∧∀ p∈X.pn++pins,p.1≠b):Inv X pins σ H' s':=by
 obtain⟨h',g',d',t',o'⟩:=s'
 have e:o'=s.os:=ho
 subst e
 exact I.call (g':=g') (t':=t') (d':=d') u hok hg hch
end

abbrev XK:=Value→Option Addr→Hp→Prop
abbrev St:=List (Option V)
abbrev VK:=V→Hp→Prop
abbrev TE:=St→Hp→VK→Prop
abbrev TT:=St→Hp→(Bool→Hp→Prop)→Prop
abbrev TA:=St→Hp→(List V→Hp→Prop)→Prop
structure Ends where
 nx:St→Hp→Prop
 rt:VK
 bk:St→Hp→Prop:=λ_ _=>False
 ct:St→Hp→Prop:=λ_ _=>False
abbrev TS:=Ends→St→Hp→Prop
def EP (X:Cx) (pins:List (Addr × Obj)) (σ:St) (Q:VK) (u:Value) (s':Shared):Prop:=∃ v H',Inv X pins σ H' s'∧RelV v u∧Q v H'
def TP (X:Cx) (pins:List (Addr × Obj)) (σ:St) (Q:Bool→Hp→Prop) (b:Bool) (s':Shared):Prop:=∃ H',Inv X pins σ H' s'∧Q b H'
def AP (X:Cx) (pins:List (Addr × Obj)) (σ:St) (Q:List V→Hp→Prop) (us:List Value) (s':Shared):Prop:=∃ vs H',Inv X pins σ H' s'∧Vals vs us∧Q vs H'
def SP (X:Cx) (pins:List (Addr × Obj)) (D:Ends) (f:Flow) (s':Shared):Prop:=
 match f with
 | .next=>∃ σ' H',Inv X pins σ' H' s'∧D.nx σ' H'
 | .brk=>∃ σ' H',Inv X pins σ' H' s'∧D.bk σ' H'
 | .cont=>∃ σ' H',Inv X pins σ' H' s'∧D.ct σ' H'
 | .ret u=>∃ v σ' H',Inv X pins σ' H' s'∧RelV v u∧D.rt v H'
def PE (X:Cx) (e:Expr) (t:TE):Prop:=
 ∀ (pins:List (Addr × Obj)) (s:Shared) (σ:St) (H:Hp) (Q:VK),Inv X pins σ H s→t σ H Q→wpAny (model X.prog X.w) X.A (eval e X.env) (EP X pins σ Q) X.xe s
def PT (X:Cx) (e:Expr) (t:TT):Prop:=
 ∀ (pins:List (Addr × Obj)) (s:Shared) (σ:St) (H:Hp) (Q:Bool→Hp→Prop),Inv X pins σ H s→t σ H Q→wpAny (model X.prog X.w) X.A (isTrue e X.env (eval e X.env)) (TP X pins σ Q) X.xe s
def PW (X:Cx) (e:Expr) (t:TT):Prop:=
 ∀ (whole:Sem Value) (pins:List (Addr × Obj)) (s:Shared) (σ:St) (H:Hp) (Q:Bool→Hp→Prop),Inv X pins σ H s→t σ H Q→wpAny (model X.prog X.w) X.A (isTrue e X.env whole) (TP X pins σ Q) X.xe s
theorem PW.pt {X:Cx}{e:Expr}{t:TT}(h:PW X e t):PT X e t:=h _
def PA (X:Cx) (es:List Expr) (t:TA):Prop:=
 ∀ (pos:Pos) (pins:List (Addr × Obj)) (s:Shared) (σ:St) (H:Hp) (Q:List V→Hp→Prop),Inv X pins σ H s→t σ H Q→wpAny (model X.prog X.w) X.A (spliced (backTo pos (starEach es X.env))) (AP X pins σ Q) X.xe s
def PS (X:Cx) (st:Stmt) (t:TS):Prop:=
 ∀ (pins:List (Addr × Obj)) (s:Shared) (σ:St) (H:Hp) (D:Ends),Inv X pins σ H s→t D σ H→wpAny (model X.prog X.w) X.A (exec st X.env) (SP X pins D) X.xe s
def PSs (X:Cx) (st:List Stmt) (t:TS):Prop:=
 ∀ (pins:List (Addr × Obj)) (s:Shared) (σ:St) (H:Hp) (D:Ends),Inv X pins σ H s→t D σ H→wpAny (model X.prog X.w) X.A (execs st X.env) (SP X pins D) X.xe s
theorem thn {α:Type}{t:Sem α}{Q Q':α→Shared→Prop}{M:Model}{A:Around}{E:Value→Shared→Prop}{s:Shared}(h:wpAny M A t Q E s) (hQ:∀ a s,Q a s→Q' a s):wpAny M A t Q' E s:=wpAny_mono h hQ λ_ _ x=>x
end L2

namespace L2
open PySem PySem.Spec PyProof.Rows
section
variable {X : Cx}

theorem bin {a b:Expr}{ta tb:TE}(ha:PE X a ta) (hb:PE X b tb) {pins:List (Addr × Obj)}{s:Shared}{σ:St}{H:Hp}{R:V→V→Hp→Prop}(I:Inv X pins σ H s) (h:ta σ H λx H1=>tb σ H1 λy H2=>R x y H2)
  {α:Type}{Q:α→Shared→Prop}{f:Value→Value→Sem α}
  (hf:∀ v u s2 x y H2,Inv X pins σ H2 s2→RelV x v→RelV y u→R x y H2→wpAny (model X.prog X.w) X.A (f v u) Q X.xe s2) :
  wpAny (model X.prog X.w) X.A (eval a X.env) (λv s₁=>wpAny (model X.prog X.w) X.A (eval b X.env) (λu s₂=>wpAny (model X.prog X.w) X.A (f v u) Q X.xe s₂) X.xe s₁) X.xe s:=by
 refine thn (ha pins s σ H _ I h) λv s1 ⟨x,H1,I1,r1,q1⟩=>?_
 refine thn (hb pins s1 σ H1 _ I1 q1) λu s2 ⟨y,H2,I2,r2,q2⟩=>?_
 exact hf v u s2 x y H2 I2 r1 r2 q2
def tVar (i:Nat):TE:=λσ H Q=>∃ v,σ[i]?=some (some v)∧Q v H
def tC (v:V):TE:=λ_ H Q=>Q v H
theorem zoK {i:Nat}{x:Str}{pos:Pos}(hN:X.N[i]?=some x) (hv:Vis X.env.scope x) (hd:(x == ("__debug__" : Str))=false:=by decide) (hcd:(x == ("__classdict__" : Str))=false:=by decide):PE X (.Name x pos) (tVar i):=by
 intro pins s σ H Q I h
 obtain⟨v,e,h⟩:=h
 obtain⟨m,hn,hl⟩:=I.loc
 obtain⟨u,r,l⟩:=hl i x v hN e hv
 have fin:EP X pins σ Q u s:=⟨v,H,I,r,h⟩
 rcases l with ⟨hk,hm⟩ | ⟨hk,c,hc,hcell⟩
 ·exact wpAny_Name (wpAny_loadName_local I.ok.kind hk hn hm fin) hd
 ·rcases hk with hk | hk
  ·exact wpAny_Name (wpAny_loadName_cell I.ok.kind hk hc hcell fin) hd
  ·exact wpAny_Name (wpAny_loadName_free I.ok.kind hk hc hcell fin hcd) hd
theorem zaa {i j pos} : PE X (.Constant (.int i) j pos) (tC (.int i)):=λ_ _ _ H _ I h=>wpAny_Constant_int ⟨.int i,H,I.tok _,⟨_,rfl⟩,h⟩
theorem zfb {b j pos} : PE X (.Constant (.bool b) j pos) (tC (.bl b)):=λ_ _ _ H _ I h=>Constant_bool ⟨.bl b,H,I,rfl,h⟩
theorem zcN {j pos} : PE X (.Constant .none j pos) (tC .non):=λ_ _ _ H _ I h=>Constant_none ⟨.non,H,I,rfl,h⟩
theorem zaJ {x j pos} : PE X (.Constant (.str x) j pos) (tC (.str x)):=λ_ _ _ H _ I h=>Calls.Constant_str ⟨.str x,H,I.tok _,⟨_,rfl⟩,h⟩
def Gl (X:Cx) (x:Str):Prop:=X.env.kindOf x=some .globalImplicit
theorem zdU {E:Value→Shared→Prop}{pins:List (Addr × Obj)}{s:Shared}{σ:St}{H:Hp}{x:Str}{u:Value}{pos:Pos}{Q:Value→Shared→Prop}(I:Inv X pins σ H s) (hg:Gl X x) (hm:X.mg x=some u) (h:Q u s)
  (hd:(x == ("__debug__" : Str))=false:=by decide):wpAny (model X.prog X.w) X.A (eval (.Name x pos) X.env) Q E s:=
 Calls.Name_function_global I.ok.kind hg (Calls.loadGlobal_global (by rw[I.ok.glob];exact I.mod.glob.keeps I.bk) hm h) hd
theorem zfc {E:Value→Shared→Prop}{pins:List (Addr × Obj)}{s:Shared}{σ:St}{H:Hp}{x:Str}{u:Value}{pos:Pos}{Q:Value→Shared→Prop}(I:Inv X pins σ H s) (hg:Gl X x) (hm:X.mg x=none) (hv:bootBuiltins x=some u) (h:Q u s)
  (hn:x≠ "__name__":=by decide) (hd:(x == ("__debug__" : Str))=false:=by decide):wpAny (model X.prog X.w) X.A (eval (.Name x pos) X.env) Q E s:=by
 obtain⟨mb,h1,h2⟩:=I.mod.blt
 exact Calls.Name_function_global I.ok.kind hg (Calls.loadGlobal_builtin (by rw[I.ok.glob];exact I.mod.glob.keeps I.bk) hm (by rw[I.ok.blt];exact h1.keeps I.bk) ((h2 x hn).trans hv) h) hd
theorem zkr {x:Str}{v:V}{u:Value}{pos:Pos}(hg:Gl X x) (hm:X.mg x=some u) (r:RelV v u) (hd:(x == ("__debug__" : Str))=false:=by decide):PE X (.Name x pos) (tC v):=
 λ_ _ _ H _ I h=>zdU I hg hm ⟨v,H,I,r,h⟩ hd
theorem zde {x:Str}{v:V}{u:Value}{pos:Pos}(hg:Gl X x) (hm:X.mg x=none) (hv:bootBuiltins x=some u) (r:RelV v u) (hn:x≠ "__name__":=by decide) (hd:(x == ("__debug__" : Str))=false:=by decide):PE X (.Name x pos) (tC v):=
 λ_ _ _ H _ I h=>zfc I hg hm hv ⟨v,H,I,r,h⟩ hn hd
variable {a b : Expr} {ta tb : TE} {pos : Pos}
def PC (X:Cx) (op:CmpOp) (a b:Expr) (t:TE):Prop:=
 ∀ (pins:List (Addr × Obj)) (s:Shared) (σ:St) (H:Hp) (Q:VK),Inv X pins σ H s→t σ H Q→
  wpAny (model X.prog X.w) X.A (eval a X.env) (λv s₁=>wpAny (model X.prog X.w) X.A (eval b X.env) (λu s₂=>wpAny (model X.prog X.w) X.A (compareOp op v u) (EP X pins σ Q) X.xe s₂) X.xe s₁) X.xe s
def tB (t:TE):TT:=λσ H Q=>t σ H λx H1=>∃ c,x=.bl c∧Q c H1
theorem zg5 {op:CmpOp}{t:TE}(h:PC X op a b t) (h1:behindInMarks op b=false:=by first | exact nobehind _ (by decide) (by decide) | rfl):PT X (.Compare a [op] [b] pos) (tB t):=by
 intro pins s σ H Q I hw
 refine wpAny_isTrue_Compare1 (thn (h pins s σ H _ I hw) λv s1 h1=>thn h1 λu s2 h2=>thn h2 λc s3 ⟨x,H1,I1,r1,q1⟩=>?_) h1
 obtain⟨d,rfl,q⟩:=q1
 cases r1
 exact wpAny_truthy_bool ⟨H1,I1,q⟩
theorem zb2 {e:Expr}{t:TE}(h:PE X e t) (he:∀ whole,isTrue e X.env whole=(do let v ←whole;standAt e.pos;holding [v] (truthy v)):=by intro _;rfl):PT X e (tB t):=by
 intro pins s σ H Q I hw
 refine isTrue_plain (thn (h pins s σ H _ I hw) λv s1 ⟨x,H1,I1,r1,q1⟩=>?_) (he _)
 obtain⟨d,rfl,q⟩:=q1
 cases r1
 exact wpAny_truthy_bool ⟨H1,I1,q⟩
variable {tA tB' : TT} {rest : List Expr}
def tAnd (t u:TT):TT:=λσ H Q=>t σ H λc H1=>if c=true then u σ H1 Q else Q false H1
def tOr (t u:TT):TT:=λσ H Q=>t σ H λc H1=>if c=true then Q true H1 else u σ H1 Q
def tNot (t:TT):TT:=λσ H Q=>t σ H λc H1=>Q (!c) H1
theorem zij (ha:PT X a tA):PW X (.BoolOp .And [a] pos) tA:=by
 intro wh pins s σ H Q I h
 refine isTrue_and (thn (ha pins s σ H Q I h) λc s1 e=>?_)
 cases c with
 | true=>exact isTrue_and_nil e
 | false=>exact e
theorem zg6 (ha:PT X a tA):PW X (.BoolOp .Or [a] pos) tA:=by
 intro wh pins s σ H Q I h
 refine isTrue_or (thn (ha pins s σ H Q I h) λc s1 e=>?_)
 cases c with
 | false=>exact isTrue_or_nil e
 | true=>exact e
theorem zks (ha:PT X a tA) (hb:PW X (.BoolOp .And (b::rest) pos) tB'):PW X (.BoolOp .And (a::b::rest) pos) (tAnd tA tB'):=by
 intro wh pins s σ H Q I h
 refine isTrue_and (thn (ha pins s σ H _ I h) λc s1 ⟨H1,I1,q1⟩=>?_)
 cases c with
 | true=>exact hb wh pins s1 σ H1 Q I1 q1
 | false=>exact⟨H1,I1,q1⟩
theorem zkt (ha:PT X a tA) (hb:PW X (.BoolOp .Or (b::rest) pos) tB'):PW X (.BoolOp .Or (a::b::rest) pos) (tOr tA tB'):=by
 intro wh pins s σ H Q I h
 refine isTrue_or (thn (ha pins s σ H _ I h) λc s1 ⟨H1,I1,q1⟩=>?_)
 cases c with
 | true=>exact⟨H1,I1,q1⟩
 | false=>exact hb wh pins s1 σ H1 Q I1 q1
theorem zc9 (ha:PT X a tA):PT X (.UnaryOp .Not a pos) (tNot tA):=by
 intro pins s σ H Q I h
 exact isTrue_not (ha pins s σ H (λc H1=>Q (!c) H1) I h)
def zlT (ta tb:TE):TE:=λσ H Q=>ta σ H λx H1=>∃ c,x=.bl c∧if c=true then tb σ H1 Q else Q (.bl false) H1
def zoL (ta:TE):TE:=λσ H Q=>ta σ H λx H1=>∃ c,x=.bl c∧Q (.bl (!c)) H1
theorem zbV {op}{t:TE}(h:PE X a t):PE X (.BoolOp op [a] pos) t:=λpins s σ H Q I hw=>BoolOp_one (h pins s σ H Q I hw)
theorem zbu (ha:PE X a ta) (hb:PE X (.BoolOp .And (b::rest) pos) tb):PE X (.BoolOp .And (a::b::rest) pos) (zlT ta tb):=by
 intro pins s σ H Q I h
 refine BoolOp_and (thn (ha pins s σ H _ I h) λv s1 ⟨x,H1,I1,r1,q1⟩=>?_)
 obtain⟨c,rfl,q1⟩:=q1
 cases r1
 refine wpAny_truthy_bool ?_
 cases c with
 | true=>exact hb pins s1 σ H1 Q I1 q1
 | false=>exact⟨.bl false,H1,I1,rfl,q1⟩
theorem zoM (ha:PE X a ta):PE X (.UnaryOp .Not a pos) (zoL ta):=by
 intro pins s σ H Q I h
 refine UnaryOp_ (thn (ha pins s σ H _ I h) λv s1 ⟨x,H1,I1,r1,q1⟩=>?_)
 obtain⟨c,rfl,q1⟩:=q1
 cases r1
 exact not_of (wpAny_truthy_bool ⟨.bl (!c),H1,I1,rfl,q1⟩)
def tIf (t:TT) (ta tb:TE):TE:=λσ H Q=>t σ H λc H1=>if c=true then ta σ H1 Q else tb σ H1 Q
theorem zdz {c:Expr}(hc:PT X c tA) (ha:PE X a ta) (hb:PE X b tb):PE X (.IfExp c a b pos) (tIf tA ta tb):=by
 intro pins s σ H Q I h
 refine wpAny_IfExp (thn (hc pins s σ H _ I h) λd s1 ⟨H1,I1,q1⟩=>?_)
 cases d with
 | true=>exact ha pins s1 σ H1 Q I1 q1
 | false=>exact hb pins s1 σ H1 Q I1 q1
end
end L2

namespace L2
open PySem PySem.Spec PyProof.Rows

def SqL (K:Fg) (H:Hp) (a:Addr) (xs:List V):Prop:=
 Rd H a (.lst xs)∨
  ∃ (o:Obj) (its:Array Value) (n:Nat),K.lookup a=some o∧o.cls=.type "list" ∧o.dict=none∧o.data=.seq its n∧its.size≤sizeLine∧Vals xs its.toList
def SqT (K:Fg) (H:Hp) (a:Addr) (xs:List V):Prop:=
 Rd H a (.tup xs)∨
  ∃ (o:Obj) (its:Array Value) (n:Nat),K.lookup a=some o∧o.cls=.type "tuple" ∧o.data=.seq its n∧its.size≤sizeLine∧Vals xs its.toList
def absV:Value→Option V
 | .none=>some .non
 | .bool b=>some (.bl b)
 | .int i _=>some (.int i)
 | .str x _=>some (.str x)
 | .bytes b _=>some (.byt b)
 | .float b _=>some (.flt b)
 | .ref a=>some (.ref a)
 | .type n=>some (.ty n)
 | _=>none
theorem RelV.abs {x:V}{u:Value}(r:RelV x u):absV u=some x:=by
 cases x with
 | non=>cases r;rfl
 | bl _=>cases r;rfl
 | int _=>obtain⟨t,rfl⟩:=r;rfl
 | str _=>obtain⟨t,rfl⟩:=r;rfl
 | byt _=>obtain⟨t,rfl⟩:=r;rfl
 | flt _=>obtain⟨t,rfl⟩:=r;rfl
 | ref _=>cases r;rfl
 | ty _=>cases r;rfl
theorem RelV.inj {x y:V}{u:Value}(r:RelV x u) (q:RelV y u):x=y:=Option.some.inj (r.abs.symm.trans q.abs)
theorem Vals.inj:∀ {xs ys:List V}{us:List Value},Vals xs us→Vals ys us→xs=ys
 | _,_,_,.nil,.nil=>rfl
 | _,_,_,.cons r t,.cons r' t'=>by rw[r.inj r',Vals.inj t t']
section
variable {X : Cx} {pins : List (Addr × Obj)} {σ : St} {H : Hp} {s : Shared} {a : Addr} {xs ys : List V}
theorem SqL.of {K:Fg}(h:H a=some (.lst xs)):SqL K H a xs:=.inl (.inl h)
theorem SqT.of {K:Fg}(h:H a=some (.tup xs)):SqT K H a xs:=.inl (.inl h)
theorem Inv.list (I:Inv X pins σ H s) (h:SqL X.K H a xs):∃ its:List Value,Vals xs its∧PlainL s.heap a its.toArray∧xs.length≤sizeLine:=by
 rcases h with h | ⟨o,its,n,hk,hc,hd,hs,hz,r⟩
 ·obtain⟨z,its,n,r,e⟩:=h.ok I.hok
  exact⟨its,r,⟨_,n,e,rfl,rfl,rfl⟩,z⟩
 ·refine⟨its.toList,r,⟨o,n,I.kIn a o hk,hc,hd,by simpa using hs⟩,?_⟩
  have e:=r.length
  simp only[Array.length_toList] at e
  omega
theorem Inv.tuple (I:Inv X pins σ H s) (h:SqT X.K H a xs):∃ its:List Value,Vals xs its∧IsTup s.heap a its.toArray∧xs.length≤sizeLine:=by
 rcases h with h | ⟨o,its,n,hk,hc,hs,hz,r⟩
 ·obtain⟨z,its,r,p⟩:=h.ok I.hok
  exact⟨its,r,p,z⟩
 ·refine⟨its.toList,r,⟨o,I.kIn a o hk,hc,n,by simpa using hs⟩,?_⟩
  have e:=r.length
  simp only[Array.length_toList] at e
  omega
theorem Inv.list_inj (I:Inv X pins σ H s) (h:SqL X.K H a xs) (h':SqL X.K H a ys):xs=ys:=by
 obtain⟨its,r,⟨o,n,e,_,_,d⟩,_⟩:=I.list h
 obtain⟨its',r',⟨o',n',e',_,_,d'⟩,_⟩:=I.list h'
 rw[e] at e';cases e'
 rw[d] at d'
 injection d' with d1 _
 have:its=its':=by simpa using congrArg Array.toList d1
 subst this
 exact r.inj r'
theorem Inv.tuple_inj (I:Inv X pins σ H s) (h:SqT X.K H a xs) (h':SqT X.K H a ys):xs=ys:=by
 obtain⟨its,r,⟨o,e,_,n,d⟩,_⟩:=I.tuple h
 obtain⟨its',r',⟨o',e',_,n',d'⟩,_⟩:=I.tuple h'
 rw[e] at e';cases e'
 rw[d] at d'
 injection d' with d1 _
 have:its=its':=by simpa using congrArg Array.toList d1
 subst this
 exact r.inj r'
end

abbrev Cx.wish (X:Cx) (E:Value→Shared→Prop):Cx:={X with xe:=E}
abbrev Cx.nox (X:Cx):Cx:=X.wish λ_ _=>False
theorem Cx.Ok.wish {X:Cx}(ok:X.Ok) (E:Value→Shared→Prop):(X.wish E).Ok:=
 ⟨ok.mod,ok.kind,ok.glob,ok.blt,ok.above,ok.inj,ok.has,ok.cab,ok.hd,ok.frames,ok.stk,ok.exf,ok.bs,ok.bsz,ok.noex,ok.exfs,ok.funs,ok.frf⟩
theorem Cx.Ok.unwish {X:Cx}{E:Value→Shared→Prop}(ok:(X.wish E).Ok):X.Ok:=
 ⟨ok.mod,ok.kind,ok.glob,ok.blt,ok.above,ok.inj,ok.has,ok.cab,ok.hd,ok.frames,ok.stk,ok.exf,ok.bs,ok.bsz,ok.noex,ok.exfs,ok.funs,ok.frf⟩
section
variable {X : Cx} {pins : List (Addr × Obj)} {σ : St} {H : Hp} {s : Shared} {E : Value → Shared → Prop}
theorem Inv.wish (I:Inv X pins σ H s) (E:Value→Shared→Prop):Inv (X.wish E) pins σ H s:=⟨I.ok.wish E,I.os,I.bare,I.base,I.loc,I.cell,I.free,I.freeC,I.pin,I.hok,I.len⟩
theorem Inv.unwish (I:Inv (X.wish E) pins σ H s):Inv X pins σ H s:=⟨I.ok.unwish,I.os,I.bare,I.base,I.loc,I.cell,I.free,I.freeC,I.pin,I.hok,I.len⟩
theorem SP.unwish {D:Ends}{f:Flow}{s':Shared}(h:SP (X.wish E) pins D f s'):SP X pins D f s':=by
 cases f with
 | next=>obtain⟨σ',H',I,q⟩:=h;exact⟨σ',H',I.unwish,q⟩
 | brk=>obtain⟨σ',H',I,q⟩:=h;exact⟨σ',H',I.unwish,q⟩
 | cont=>obtain⟨σ',H',I,q⟩:=h;exact⟨σ',H',I.unwish,q⟩
 | ret u=>obtain⟨v,σ',H',I,r,q⟩:=h;exact⟨v,σ',H',I.unwish,r,q⟩
theorem PSs.nox {st:List Stmt}{t:TS}(h:PSs X.nox st t):PSs X st t:=λpins s σ H D I hw=>
 wpAny_mono (h pins s σ H D (I.wish _) hw) (λ_ _ q=>q.unwish) λ_ _ z=>False.elim z
end

section
variable {X : Cx} {st : Stmt} {rest : List Stmt} {t u : TS} {e : Expr} {te : TE} {pos : Pos}
def zlU:TS:=λD σ H=>D.nx σ H
def tSeq (t u:TS):TS:=λD σ H=>t {D with nx:=u D} σ H
theorem zax:PSs X [] zlU:=λ_ _ σ H _ I h=>wpAny_execs_nil ⟨σ,H,I,h⟩
theorem zae (h1:PS X st t) (h2:PSs X rest u):PSs X (st::rest) (tSeq t u):=by
 intro pins s σ H D I h
 refine wpAny_execs_cons (thn (h1 pins s σ H {D with nx:=u D} I h) λf s1 q=>?_)
 cases f with
 | next=>
  obtain⟨σ',H',I',q⟩:=q
  exact h2 pins s1 σ' H' D I' q
 | ret v=>exact q
 | brk=>exact q
 | cont=>exact q
theorem zag (h1:PS X st t):PSs X [st] t:=by
 intro pins s σ H D I h
 refine wpAny_execs_cons (thn (h1 pins s σ H D I h) λf s1 q=>?_)
 cases f with
 | next=>exact wpAny_execs_nil q
 | ret v=>exact q
 | brk=>exact q
 | cont=>exact q
theorem Inv.quiet {pins:List (Addr × Obj)}{σ:St}{H:Hp}{s:Shared}(I:Inv X pins σ H s):interactive X.env=false:=by simp[interactive,I.ok.kind]
def znu (te:TE):TS:=λD σ H=>te σ H λ_ H1=>D.nx σ H1
theorem zaW (he:PE X e te) (hs:swapsWith e none pos.line X.env=pure false:=by rfl):PS X (.Expr e pos) (znu te):=by
 intro pins s σ H D I h
 exact wpAny_Expr_any (thn (he pins s σ H _ I h) λv s1 ⟨x,H1,I1,r1,q1⟩=>⟨σ,H1,I1,q1⟩) I.quiet hs
def tRet (te:TE):TS:=λD σ H=>te σ H D.rt
theorem zar (he:PE X e te):PS X (.Return (some e) pos) (tRet te):=by
 intro pins s σ H D I h
 exact wpAny_Return_some (thn (he pins s σ H _ I h) λv s1 ⟨x,H1,I1,r1,q1⟩=>⟨x,σ,H1,I1,r1,q1⟩)
def tRetN:TS:=λD _ H=>D.rt .non H
theorem zku:PS X (.Return none pos) tRetN:=λ_ _ σ H _ I h=>wpAny_Return_none ⟨.non,σ,H,I,rfl,h⟩
def tIfS (c:TT) (t u:TS):TS:=λD σ H=>c σ H λb H1=>if b=true then t D σ H1 else u D σ H1
theorem zaR {c:Expr}{a b:List Stmt}{tc:TT}(hc:PT X c tc) (ha:PSs X a t) (hb:PSs X b u):PS X (.If c a b pos) (tIfS tc t u):=by
 intro pins s σ H D I h
 refine wpAny_If (thn (hc pins s σ H _ I h) λd s1 ⟨H1,I1,q1⟩=>?_)
 cases d with
 | true=>exact ha pins s1 σ H1 D I1 q1
 | false=>exact hb pins s1 σ H1 D I1 q1
def zoN:TS:=λ_ _ _=>False
end

abbrev TG:=V→St→Hp→(St→Hp→Prop)→Prop
abbrev TGs:=List V→St→Hp→(St→Hp→Prop)→Prop
def PG (X:Cx) (target:Expr) (t:TG):Prop:=
 ∀ (pins:List (Addr × Obj)) (s:Shared) (σ:St) (H:Hp) (v:V) (u:Value) (Q:St→Hp→Prop),Inv X pins σ H s→RelV v u→t v σ H Q→
  wpAny (model X.prog X.w) X.A (assign target X.env u) (λ_ s'=>∃ σ' H',Inv X pins σ' H' s'∧Q σ' H') X.xe s
def PGs (X:Cx) (ts:List Expr) (t:TGs):Prop:=
 ∀ (pins:List (Addr × Obj)) (s:Shared) (σ:St) (H:Hp) (vs:List V) (us:List Value) (Q:St→Hp→Prop),Inv X pins σ H s→Vals vs us→t vs σ H Q→
  wpAny (model X.prog X.w) X.A (assignInOrder ((assignEach ts X.env).map (·.2)) us) (λ_ s'=>∃ σ' H',Inv X pins σ' H' s'∧Q σ' H') X.xe s
abbrev TSet:=V→V→V→Hp→(Hp→Prop)→Prop
def PSet (X:Cx) (t:TSet):Prop:=
 ∀ (pins:List (Addr × Obj)) (s:Shared) (σ:St) (H:Hp) (o i v:V) (ov iv u:Value) (Q:Hp→Prop),Inv X pins σ H s→RelV o ov→RelV i iv→RelV v u→t o i v H Q→
  wpAny (model X.prog X.w) X.A (setItem ov iv u) (λ_ s'=>∃ H',Inv X pins σ H' s'∧Q H') X.xe s
section
variable {X : Cx} {pos : Pos}
def zlV (i:Nat):TG:=λv σ H Q=>Q (σ.set i (some v)) H
theorem zaK {i:Nat}{x:Str}(hN:X.N.Nodup) (hi:X.N[i]?=some x) (hx:Loc X.env.scope x) (hf:X.fn x=true∨X.env.scope.names.lookup x=some .local:=by first | exact .inl rfl | exact .inr rfl | assumption):PG X (.Name x pos) (zlV i):=by
 intro pins s σ H v u Q I r h
 exact wpAny_assign_Name (ze2 I hN hi hx r (λs' I'=>⟨_,H,I',h⟩) hf)
def gNil:TGs:=λvs σ H Q=>vs=[]∧Q σ H
inductive ConsI (vs:List V) (P:V→List V→Prop):Prop
 | mk (v:V) (r:List V) (e:vs=v::r) (q:P v r):ConsI vs P
def gCons (t:TG) (u:TGs):TGs:=λvs σ H Q=>ConsI vs λv r=>t v σ H λσ' H'=>u r σ' H' Q
theorem zgz:PGs X [] gNil:=by
 intro pins s σ H vs us Q I r h
 obtain⟨e,h⟩:=h
 subst e
 cases r
 exact assignInOrder_nil ⟨σ,H,I,h⟩
theorem zb0 {e:Expr}{es:List Expr}{t:TG}{u:TGs}(h1:PG X e t) (h2:PGs X es u)
  (hs:(assignEach (e::es) X.env).map (·.2)=assign e X.env::(assignEach es X.env).map (·.2):=by rfl):PGs X (e::es) (gCons t u):=by
 intro pins s σ H vs us Q I r h
 obtain⟨v,vr,e1,h⟩:=h
 subst e1
 cases r with
 | cons r rr=>
  rw[hs]
  refine assignInOrder_cons (thn (h1 pins s σ H _ _ _ I r h) λ_ s1 ⟨σ1,H1,I1,q1⟩=>?_)
  exact h2 pins s1 σ1 H1 _ _ Q I1 rr q1
inductive TupI (K:Fg) (n:Nat) (v:V) (H:Hp) (P:List V→Prop):Prop
 | mk (a:Addr) (xs:List V) (e:v=.ref a) (h:SqT K H a xs) (l:xs.length=n) (q:P xs):TupI K n v H P
def gTup (K:Fg) (n:Nat) (t:TGs):TG:=λv σ H Q=>TupI K n v H λxs=>t xs σ H Q
theorem zoO {es:List Expr}{k:Nat}{t:TGs}{n:Nat}(hc:X.calm=true) (h:PGs X es t)
  (hn:(assignEach es X.env).length=n:=by rfl) (hst:(assignEach es X.env).findIdx? (·.1)=none:=by rfl):PG X (.Tuple es k pos) (gTup X.K n t):=by
 intro pins s σ H v u Q I r hw
 obtain⟨a,xs,e1,hq,hl,hw⟩:=hw
 subst e1
 cases r
 obtain⟨its,rv,ht,hz⟩:=I.tuple hq
 refine assign_Tuple_tuple (I.ok.hd hc) ht (by simp[hn,←hl,rv.length]) hst λh' hx=>?_
 have I1:Inv X pins σ H {s with heap:=h'}:=I.kept (t':=s.toks) λb o e=>hx b o (Nat.ne_of_lt (Heap.lt_size e)) e
 exact h pins _ σ H xs _ Q I1 (by simpa using rv) hw
def gSub (to ti:TE) (t:TSet):TG:=λv σ H Q=>to σ H λo H1=>ti σ H1 λi H2=>t o i v H2 λH3=>Q σ H3
theorem zck {o i:Expr}{to ti:TE}{t:TSet}(ho:PE X o to) (hi:PE X i ti) (hs:PSet X t)
  (ha:∀ v,assign (.Subscript o i pos) X.env v=(do
   let ov ←holding [v] (eval o X.env)
   let iv ←holding [v,ov] (eval i X.env)
   standAt pos
   holding [v,ov,iv] (setItem ov iv v)
   release [v,ov,iv] []):=by intro _;rfl):PG X (.Subscript o i pos) (gSub to ti t):=by
 intro pins s σ H v u Q I r h
 rw[ha]
 refine wpAny_bind (wpAny_holding (thn (ho pins s σ H _ I h) λov s1 ⟨x,H1,I1,r1,q1⟩=>?_))
 refine wpAny_bind (wpAny_holding (thn (hi pins s1 σ H1 _ I1 q1) λiv s2 ⟨y,H2,I2,r2,q2⟩=>?_))
 refine wpAny_bind (wpAny_standAt (wpAny_bind (wpAny_holding (thn (hs pins s2 σ H2 x y v ov iv u _ I2 r1 r2 r q2) λ_ s3 ⟨H3,I3,q3⟩=>?_))))
 exact wpAny_release ⟨σ,H3,I3,q3⟩
def tAsg (te:TE) (g:TG):TS:=λD σ H=>te σ H λx H1=>g x σ H1 D.nx
theorem zcd {tg e:Expr}{te:TE}{g:TG}(he:PE X e te) (hg:PG X tg g) (hs:swapsWithSole [tg] e pos.line X.env=pure false:=by rfl) (hw:swappedStores [tg] e X.env=pure none:=by rfl)
  (h1:(assignEach [tg] X.env).map (·.2)=[assign tg X.env]:=by rfl):PS X (.Assign [tg] e pos) (tAsg te g):=by
 intro pins s σ H D I h
 refine wpAny_Assign_stores (thn (he pins s σ H _ I h) λv s1 ⟨x,H1,I1,r1,q1⟩=>?_) hs hw
 rw[h1]
 exact thn (hg pins s1 σ H1 x v _ I1 r1 q1) λ_ s2 q=>q
theorem zaA {i:Nat}{x:Str}{e:Expr}{te:TE}{pos':Pos}(hN:X.N.Nodup) (hi:X.N[i]?=some x) (hx:Loc X.env.scope x) (he:PE X e te) (hs:swapsWith e (some (.Name x pos')) pos.line X.env=pure false:=by rfl) (hf:X.fn x=true∨X.env.scope.names.lookup x=some .local:=by first | exact .inl rfl | exact .inr rfl | assumption) :
  PS X (.Assign [.Name x pos'] e pos) (tAsg te (zlV i)):=by
 intro pins s σ H D I h
 refine wpAny_Assign_Name (thn (he pins s σ H _ I h) λv s1 ⟨y,H1,I1,r1,q1⟩=>?_) hs
 exact ze2 I1 hN hi hx r1 (λs2 I2=>⟨_,H1,I2,q1⟩) hf
end

section
variable {X : Cx} {pos : Pos}
def zoP (c:TT) (tb:TS):TS:=λD σ H=>∃ W:Nat→St→Hp→Prop,(∃ m,W m σ H)∧∀ m σ H,W m σ H→
 c σ H λb H1=>if b=true then ∃ N:St→Hp→Prop,(∀ σ' H',N σ' H'→∃ m',m'<m∧W m' σ' H')∧tb {D with nx:=N,ct:=N,bk:=D.nx} σ H1 else D.nx σ H1
theorem zgA {c:Expr}{body:List Stmt}{tc:TT}{tb:TS}(hp:PassesOwn (model X.prog X.w) X.A X.env X.xe) (hc:PT X c tc) (hb:PSs X body tb):PS X (.While c body [] pos) (zoP tc tb):=by
 intro pins s σ H D I h
 obtain⟨W,⟨m0,w0⟩,turn⟩:=h
 refine wpAny_While (codeAny_whileLoop (λn s'=>∃ σ' H',Inv X pins σ' H' s'∧W n σ' H') ?_ m0 ⟨σ,H,I,w0⟩)
 rintro n s1 ⟨σ1,H1,I1,w1⟩
 refine wpAny_passesOwn hp (thn (hc pins s1 σ1 H1 _ I1 (turn n σ1 H1 w1)) λb s2 ⟨H2,I2,q2⟩=>?_)
 cases b with
 | true=>
  obtain⟨N,hN,q2⟩:=q2
  rw[if_pos rfl]
  refine wpAny_passesOwn hp (thn (hb pins s2 σ1 H2 _ I2 q2) λf s3 q3=>?_)
  cases f with
  | next=>
   obtain⟨σ3,H3,I3,n3⟩:=q3
   obtain⟨m',hm,w3⟩:=hN σ3 H3 n3
   exact⟨m',hm,σ3,H3,I3,w3⟩
  | cont=>
   obtain⟨σ3,H3,I3,n3⟩:=q3
   obtain⟨m',hm,w3⟩:=hN σ3 H3 n3
   exact⟨m',hm,σ3,H3,I3,w3⟩
  | brk=>exact q3
  | ret v=>exact q3
 | false=>
  rw[if_neg Bool.false_ne_true]
  exact wpAny_execs_nil ⟨σ1,H2,I2,q2⟩
end

structure It where
 go:Nat→Hp→Prop
 yld:Nat→Hp→V→Hp→Prop
 stop:Nat→Hp→Prop
def FpOk (X:Cx) (pins:List (Addr × Obj)) (H:Hp) (b:Addr):Prop:=
 H b=none∧b≠X.env.locals∧b∉X.fs∧(b∈X.ex∨X.s₀.heap.objs.size≤b)∧(∀ x c,X.env.cells.lookup x=some c→c≠b)∧∀ p∈X.pn++pins,p.1≠b
theorem Inv.fpOk {X:Cx}{pins:List (Addr × Obj)}{σ:St}{H H':Hp}{s:Shared}{b:Addr}(I:Inv X pins σ H s) (hb:s.heap.objs.size≤b) (hn:H' b=none):FpOk X pins H' b:=by
 refine⟨hn,Nat.ne_of_gt (Nat.lt_of_lt_of_le I.lt hb),I.nofs hb,.inr (Nat.le_trans I.sz hb),λx c e z=>?_,λp hp z=>?_⟩
 ·obtain⟨v,q⟩:=I.cell x c e
  exact absurd (Nat.lt_of_lt_of_le q.lt (by rw[z];exact hb)) (Nat.lt_irrefl _)
 ·exact absurd (Nat.lt_of_lt_of_le (Heap.lt_size (I.pin p hp).1) (by rw[z];exact hb)) (Nat.lt_irrefl _)
structure Turn (P:Program) (w:World) (K:Fg) (tg:Expr) (J:It) (fp:List Addr) (it:Addr) (tn:Nat→Heap→Prop):Prop where
 mem:it∈fp
 obj:∀ i h,tn i h→∀ b∈fp,∃ o,h.get? b=some o∧∀ v,o.data≠.cell v
 keep:∀ i h h',tn i h→(∀ b∈fp,∀ o,h.get? b=some o→h'.get? b=some o)→tn i h'
 item:∀ (X:Cx),X.prog=P→X.w=w→X.K=K→X.calm=true→∀ (i:Nat) (pins:List (Addr × Obj)) (s:Shared) (σ:St) (H:Hp) (E:Value→Shared→Prop),Inv X pins σ H s→(∀ b∈fp,FpOk X pins H b)→tn i s.heap→J.go i H→
  wpAny (model P w) X.A (pyNext (.ref it)) (λr s1=>∃ u,r=some u∧
   wpAny (model P w) X.A (letOwnedTupleGo tg (.ref it) u) (λ_ s2=>∃ x H',Inv X pins σ H' s2∧RelV x u∧J.yld i H x H'∧tn (i+1) s2.heap∧∀ b∈fp,H' b=none) E s1) E s
 done:∀ (X:Cx),X.prog=P→X.w=w→X.K=K→X.calm=true→∀ (i:Nat) (pins:List (Addr × Obj)) (s:Shared) (σ:St) (H:Hp) (E:Value→Shared→Prop),Inv X pins σ H s→(∀ b∈fp,FpOk X pins H b)→tn i s.heap→J.stop i H→
  wpAny (model P w) X.A (pyNext (.ref it)) (λr s1=>r=none∧Inv X pins σ H s1) E s
 self:∀ (A:Around) (i:Nat) (s:Shared) (Q:Value→Shared→Prop) (E:Value→Shared→Prop),tn i s.heap→Q (.ref it) s→wpAny (model P w) A (pyIter (.ref it)) Q E s
abbrev TI:=St→Hp→(It→Hp→Prop)→Prop
def PIE (X:Cx) (pins:List (Addr × Obj)) (σ:St) (tg:Expr) (R:It→Hp→Prop) (itv:Value) (s2:Shared):Prop:=
 ∃ (it:Addr) (fp:List Addr) (tn:Nat→Heap→Prop) (J:It) (H':Hp),itv=.ref it∧Inv X pins σ H' s2∧Turn X.prog X.w X.K tg J fp it tn∧tn 0 s2.heap∧(∀ b∈fp,FpOk X pins H' b)∧R J H'
def PI (X:Cx) (tg iter:Expr) (wi:TI):Prop:=
 ∀ (pins:List (Addr × Obj)) (s:Shared) (σ:St) (H:Hp) (R:It→Hp→Prop),Inv X pins σ H s→wi σ H R→
  wpAny (model X.prog X.w) X.A (eval iter X.env) (λv s1=>wpAny (model X.prog X.w) X.A (pyIter v) (PIE X pins σ tg R) X.xe s1) X.xe s
theorem znv {M:Model}{A:Around}{E:Value→Shared→Prop}{s:Shared}{tg:Expr}{it:Addr}{u:Value}{o:Obj}{n:String}{vs:Array Value}{Q:Unit→Shared→Prop}(ho:s.heap.get? it=some o) (hc:o.cls=.type n) (hd:o.data=.fields vs)
    (hn:["enumerate","zip","dict_itemiterator","dict_reverseitemiterator","odict_iterator","itertools.zip_longest","itertools.pairwise"].contains n=false) (hQ:Q () s):wpAny M A (letOwnedTupleGo tg (.ref it) u) Q E s:=by
  unfold letOwnedTupleGo
  cases tg <;> first
    | exact wpAny_pure hQ
    | (cases u <;> first
        | exact wpAny_pure hQ
        | (refine wpAny_bind (wpAny_load ho ?_)
           rw[hc,hd]
           show wpAny M A (if (["enumerate","zip","dict_itemiterator","dict_reverseitemiterator","odict_iterator","itertools.zip_longest","itertools.pairwise"].contains n && vs[0]? == some (rawInt _))=true then _ else _) Q E s
           rw[if_neg (by intro h;rw[hn,Bool.false_and] at h;cases h)]
           exact wpAny_pure hQ))
def Itl (K:Fg) (a:Addr):It:=
 ⟨λi H=>∃ xs x,SqL K H a xs∧xs[i]?=some x,λi H x H'=>H'=H∧∀ xs,SqL K H a xs→xs[i]?=some x,λi H=>∃ xs,SqL K H a xs∧xs.length≤i⟩
def Itt (K:Fg) (a:Addr):It:=
 ⟨λi H=>∃ xs x,SqT K H a xs∧xs[i]?=some x,λi H x H'=>H'=H∧∀ xs,SqT K H a xs→xs[i]?=some x,λi H=>∃ xs,SqT K H a xs∧xs.length≤i⟩
def Itr (lo:Int) (n:Nat):It:=⟨λi _=>i<n,λi H x H'=>H'=H∧x=.int (lo+i),λi _=>n≤i⟩
theorem zkv {P:Program}{w:World}{K:Fg}{tg:Expr}(a it:Addr):Turn P w K tg (Itl K a) [it] it (λi h=>h.IsListIter it a i) where
 mem:=by simp
 obj:=λi h st b hb=>by
  have e:b=it:=by simpa using hb
  subst e
  obtain⟨o,e,c,d⟩:=st
  exact⟨o,e,λv z=>by rw[d] at z;cases z⟩
 keep:=λi h h' st k=>st.at λo e=>k it (by simp) o e
 item:=by
  intro X hP hw hK hc i pins s σ H E I hf st hg
  subst hP hw hK
  obtain⟨xs,x,hq,hx⟩:=hg
  obtain⟨its,rv,p,hz⟩:=I.list hq
  obtain⟨u,hu,ru⟩:=rv.get hx
  obtain⟨f0,f1,f2,f3,f4,f5⟩:=hf it (by simp)
  refine wpAny_pyNext_list_item st p.isList (x:=u) (by simpa using hu) λh' st' sb=>?_
  have I1:Inv X pins σ H {s with heap:=h'}:=I.turned (t':=s.toks) (λb o hb e=>(sb.2 b hb).trans e) f0 f1 f3 f4 f5
  obtain⟨o,e,c,d⟩:=id st'
  exact⟨u,rfl,znv (s:={s with heap:=h'}) e c d (by decide) ⟨x,H,I1,ru,⟨rfl,λys hy=>by rw[I.list_inj hy hq];exact hx⟩,st',λb hb=>(hf b hb).1⟩⟩
 done:=by
  intro X hP hw hK hc i pins s σ H E I hf st hg
  subst hP hw hK
  obtain⟨xs,hq,hx⟩:=hg
  obtain⟨its,rv,p,hz⟩:=I.list hq
  obtain⟨f0,f1,f2,f3,f4,f5⟩:=hf it (by simp)
  have hl:=rv.length
  exact wpAny_pyNext_list_end (I.ok.hd hc) st p.isList (by simp;omega) λh' eb=>⟨rfl,I.turned (t':=s.toks) (λb o hb e=>eb b o hb e) f0 f1 f3 f4 f5⟩
 self:=λ_ _ _ _ _ st h=>wpAny_pyIter_listiter st h
theorem zjE {P:Program}{w:World}{K:Fg}{tg:Expr}(a it:Addr):Turn P w K tg (Itt K a) [it] it (λi h=>h.IsTupleIter it a i) where
 mem:=by simp
 obj:=λi h st b hb=>by
  have e:b=it:=by simpa using hb
  subst e
  obtain⟨o,e,c,d⟩:=st
  exact⟨o,e,λv z=>by rw[d] at z;cases z⟩
 keep:=λi h h' st k=>st.at λo e=>k it (by simp) o e
 item:=by
  intro X hP hw hK hc i pins s σ H E I hf st hg
  subst hP hw hK
  obtain⟨xs,x,hq,hx⟩:=hg
  obtain⟨its,rv,p,hz⟩:=I.tuple hq
  obtain⟨u,hu,ru⟩:=rv.get hx
  obtain⟨f0,f1,f2,f3,f4,f5⟩:=hf it (by simp)
  refine wpAny_pyNext_tuple_item st (show s.heap.IsTuple a its.toArray from p) (x:=u) (by simpa using hu) λh' st' sb=>?_
  have I1:Inv X pins σ H {s with heap:=h'}:=I.turned (t':=s.toks) (λb o hb e=>(sb.2 b hb).trans e) f0 f1 f3 f4 f5
  obtain⟨o,e,c,d⟩:=id st'
  exact⟨u,rfl,znv (s:={s with heap:=h'}) e c d (by decide) ⟨x,H,I1,ru,⟨rfl,λys hy=>by rw[I.tuple_inj hy hq];exact hx⟩,st',λb hb=>(hf b hb).1⟩⟩
 done:=by
  intro X hP hw hK hc i pins s σ H E I hf st hg
  subst hP hw hK
  obtain⟨xs,hq,hx⟩:=hg
  obtain⟨its,rv,p,hz⟩:=I.tuple hq
  obtain⟨f0,f1,f2,f3,f4,f5⟩:=hf it (by simp)
  have hl:=rv.length
  exact wpAny_pyNext_tuple_end (I.ok.hd hc) st (show s.heap.IsTuple a its.toArray from p) (by simp;omega) λh' eb=>⟨rfl,I.turned (t':=s.toks) (λb o hb e=>eb b o hb e) f0 f1 f3 f4 f5⟩
 self:=λ_ _ _ _ _ st h=>wpAny_pyIter_tupleiter st h
theorem zjF {P:Program}{w:World}{K:Fg}{tg:Expr}(it:Addr) (lo:Int) (n:Nat):Turn P w K tg (Itr lo n) [it] it (λi h=>IsRangeIter h it (lo+(i:Nat) * 1) ((n:Int) - (i:Nat)) 1) where
 mem:=by simp
 obj:=λi h st b hb=>by
  have e:b=it:=by simpa using hb
  subst e
  exact⟨_,st,λv z=>by
   have z':Data.fields _=Data.cell v:=z
   cases z'⟩
 keep:=λi h h' st k=>k it (by simp) _ st
 item:=by
  intro X hP hw hK hc i pins s σ H E I hf st hg
  subst hP hw hK
  obtain⟨f0,f1,f2,f3,f4,f5⟩:=hf it (by simp)
  have W:=Walks.range (prog:=X.prog) (w:=X.w) (I.ok.hd hc) it lo 1 n
  refine W.item i s _ _ hg st λv h' tk hv st' kk=>?_
  obtain⟨t,rfl⟩:=hv
  have I1:Inv X pins σ H {s with heap:=h',toks:=tk}:=I.turned (λb o hb e=>kk b o (by simpa using hb) e) f0 f1 f3 f4 f5
  refine⟨_,rfl,znv (s:={s with heap:=h',toks:=tk}) (n:="range_iterator") st' rfl rfl (by decide) ⟨.int (lo+i),H,I1,⟨t,?_⟩,⟨rfl,rfl⟩,st',λb hb=>(hf b hb).1⟩⟩
  rw[Int.mul_one]
 done:=by
  intro X hP hw hK hc i pins s σ H E I hf st hg
  subst hP hw hK
  obtain⟨f0,f1,f2,f3,f4,f5⟩:=hf it (by simp)
  exact wpAny_pyNext_range_end (I.ok.hd hc) st (by have:n≤i:=hg;omega) λh' eb=>⟨rfl,I.turned (t':=s.toks) (λb o hb e=>eb b o hb e) f0 f1 f3 f4 f5⟩
 self:=λ_ _ _ _ _ st h=>wpAny_pyIter_rangeiter st h
end L2

namespace L2
open PySem PySem.Spec PyProof.Rows
section
variable {X : Cx} {tg : Expr}
def znw (K:Fg) (tl:TE):TI:=λσ H R=>tl σ H λx H1=>∃ a,x=.ref a∧(∃ xs,SqL K H1 a xs)∧R (Itl K a) H1
def iTup (K:Fg) (tl:TE):TI:=λσ H R=>tl σ H λx H1=>∃ a,x=.ref a∧(∃ xs,SqT K H1 a xs)∧R (Itt K a) H1
theorem znx {l:Expr}{tl:TE}(hl:PE X l tl):PI X tg l (znw X.K tl):=by
 intro pins s σ H R I h
 refine thn (hl pins s σ H _ I h) λv s1 ⟨x,H1,I1,r1,q1⟩=>?_
 obtain⟨a,e,⟨xs,hq⟩,q⟩:=q1
 subst e
 cases r1
 obtain⟨its,rv,p,hz⟩:=I1.list hq
 refine wpAny_pyIter_list p.isList ?_
 refine⟨s1.heap.objs.size,[s1.heap.objs.size],_,_,H1,rfl,I1.kept (t':=s1.toks) λb o e=>Heap.get?_push_of_some _ e,zkv a _,⟨_,Heap.get?_push_size _ rfl,rfl,rfl⟩,λb hb=>?_,q⟩
 have e:b=s1.heap.objs.size:=by simpa using hb
 subst e
 exact I1.fpOk (Nat.le_refl _) (I1.hok.fresh (Nat.le_refl _))
theorem zoQ {l:Expr}{tl:TE}(hl:PE X l tl):PI X tg l (iTup X.K tl):=by
 intro pins s σ H R I h
 refine thn (hl pins s σ H _ I h) λv s1 ⟨x,H1,I1,r1,q1⟩=>?_
 obtain⟨a,e,⟨xs,hq⟩,q⟩:=q1
 subst e
 cases r1
 obtain⟨its,rv,p,hz⟩:=I1.tuple hq
 refine wpAny_pyIter_tuple (show s1.heap.IsTuple a its.toArray from p) ?_
 refine⟨s1.heap.objs.size,[s1.heap.objs.size],_,_,H1,rfl,I1.kept (t':=s1.toks) λb o e=>Heap.get?_push_of_some _ e,zjE a _,⟨_,Heap.get?_push_size _ rfl,rfl,rfl⟩,λb hb=>?_,q⟩
 have e:b=s1.heap.objs.size:=by simpa using hb
 subst e
 exact I1.fpOk (Nat.le_refl _) (I1.hok.fresh (Nat.le_refl _))
theorem zlW {pins:List (Addr × Obj)}{σ:St}{H:Hp}{s:Shared}{R:It→Hp→Prop}{E:Value→Shared→Prop}{lo hi:Int}{t u v:Tok}{tk:Nat}(I:Inv X pins σ H s) (h1:-(2 ^ 62)≤lo) (h2:lo<2 ^ 62) (h3:-(2 ^ 62)≤hi) (h4:hi<2 ^ 62)
  (q:R (Itr lo (hi - lo).toNat) H):wpAny (model X.prog X.w) X.A (pyIter (.ref s.heap.objs.size)) (PIE X pins σ tg R) E {s with heap:=s.heap.push {cls:=.type "range",data:=.fields #[.int lo t,.int hi u,.int 1 v]},toks:=tk}:=by
 refine wpAny_pyIter_range (IsRange.new ..) (small_one h1 h2 h3 h4) ?_
 have I1:Inv X pins σ H {s with heap:=s.heap.push {cls:=.type "range",data:=.fields #[.int lo t,.int hi u,.int 1 v]},toks:=tk}:=I.kept λb o e=>Heap.get?_push_of_some _ e
 refine⟨(s.heap.push {cls:=.type "range",data:=.fields #[.int lo t,.int hi u,.int 1 v]}).objs.size,[(s.heap.push {cls:=.type "range",data:=.fields #[.int lo t,.int hi u,.int 1 v]}).objs.size],_,_,H,rfl,
  I1.kept (t':=tk) λb o e=>Heap.get?_push_of_some _ e,zjF _ lo (hi - lo).toNat,?_,λb hb=>?_,q⟩
 ·have e1:lo+((0:Nat):Int) * 1=lo:=by simp
  have e2:(((hi - lo).toNat:Nat):Int) - ((0:Nat):Int)=Builtin.Range.rangeSize lo hi 1:=by rw[rangeSize_one];split <;> omega
  show IsRangeIter _ _ (lo+((0:Nat):Int) * 1) ((((hi - lo).toNat:Nat):Int) - ((0:Nat):Int)) 1
  rw[e1,e2]
  exact Heap.get?_push_size _ rfl
 ·have e:b=(s.heap.push {cls:=.type "range",data:=.fields #[.int lo t,.int hi u,.int 1 v]}).objs.size:=by simpa using hb
  subst e
  exact I1.fpOk (Nat.le_refl _) (I1.hok.fresh (Nat.le_refl _))
def zoR (ta:TA):TI:=λσ H R=>ta σ H λvs H1=>∃ j:Int,vs=[.int j]∧-(2 ^ 62)≤j∧j<2 ^ 62∧R (Itr 0 j.toNat) H1
theorem zbz {a:Expr}{ta:TA}{p pos:Pos}(hg:Gl X "range") (hm:X.mg "range"=none) (ha:PA X [a] ta) (hs:starEach [a] X.env=[(false,eval a X.env)]:=by rfl):PI X tg (.Call (.Name "range" p) [a] [] pos) (zoR ta):=by
 intro pins s σ H R I h
 refine Call_ (zfc I hg hm boot_range (PyProof.Rows.callWith_type1 (thn (ha pos pins s σ H _ I h) λus s1 ⟨vs,H1,I1,r1,q1⟩=>?_) hs rfl))
 obtain⟨j,e,q1,q2,q⟩:=q1
 subst e
 cases r1 with
 | cons r rr=>
  cases rr
  obtain⟨t,rfl⟩:=r
  exact call_range_1 (zlW I1 (by omega) (by omega) q1 q2 (by simpa using q))
def tFor (wi:TI) (g:TG) (tb:TS):TS:=λD σ H=>wi σ H λJ H1=>∃ W:Nat→Nat→St→Hp→Prop,(∃ m,W 0 m σ H1)∧∀ i m σ H,W i m σ H→
 (J.stop i H∧D.nx σ H)∨(J.go i H∧∃ N:St→Hp→Prop,(∀ σ' H',N σ' H'→∃ m',m'<m∧W (i+1) m' σ' H')∧∀ x H',J.yld i H x H'→g x σ H' λσ2 H2=>tb {D with nx:=N,ct:=N,bk:=D.nx} σ2 H2)
def zg7 (fp:List Addr) (h:Heap):List (Addr × Obj):=fp.filterMap λb=>(h.get? b).map λo=>(b,o)
theorem zdA {fp:List Addr}{h:Heap}{b:Addr}{o:Obj}(hb:b∈fp) (e:h.get? b=some o):(b,o)∈zg7 fp h:=List.mem_filterMap.mpr ⟨b,hb,by rw[e];rfl⟩
theorem zkw {fp:List Addr}{h:Heap}{p:Addr × Obj}(hp:p∈zg7 fp h):p.1∈fp∧h.get? p.1=some p.2:=by
 obtain⟨b,hb,e⟩:=List.mem_filterMap.mp hp
 cases q:h.get? b with
 | none=>rw[q] at e;cases e
 | some o=>
  rw[q] at e
  have e':(b,o)=p:=Option.some.inj e
  subst e'
  exact⟨hb,q⟩
theorem Inv.pinned {pins:List (Addr × Obj)}{σ:St}{H:Hp}{s:Shared}{fp:List Addr}(I:Inv X pins σ H s) (hf:∀ b∈fp,FpOk X pins H b) (ho:∀ b∈fp,∃ o,s.heap.get? b=some o∧∀ v,o.data≠.cell v):Inv X (pins++zg7 fp s.heap) σ H s:=
 I.pins_of λp hp=>(zma.mp hp).elim (λz=>I.pin p (List.mem_append_right _ z)) λz=>by
  obtain⟨hb,e⟩:=zkw z
  obtain⟨f0,f1,f2,_⟩:=hf p.1 hb
  obtain⟨o,e',d⟩:=ho p.1 hb
  rw[e] at e';cases e'
  exact⟨e,f0,f1,f2,d⟩
theorem Inv.unpinned {pins pl:List (Addr × Obj)}{σ:St}{H:Hp}{s:Shared}(I:Inv X (pins++pl) σ H s):Inv X pins σ H s:=I.pins_of λp hp=>I.pin p (List.mem_append_right _ (List.mem_append_left _ hp))
theorem zdM {iter:Expr}{body:List Stmt}{wi:TI}{g:TG}{tb:TS}{pos:Pos}(hp:PassesOwn (model X.prog X.w) X.A X.env X.xe) (hc:X.calm=true) (hi:PI X tg iter wi) (hg:PG X tg g) (hb:PSs X body tb)
  (hs:∀ x,foldedSetIterable iter X.env x=pure x:=by intro _;rfl):PS X (.For tg iter body [] pos) (tFor wi g tb):=by
 intro pins s σ H D I h
 refine wpAny_For (thn (hi pins s σ H _ I h) λv s1 h1=>thn h1 λitv s2 h2=>?_) hs
 obtain⟨it,fp,tn,J,H2,e,I2,T,st2,f2,W,⟨m0,w0⟩,turn⟩:=h2
 subst e
 -- what stays true of the iterator's objects through the loop
 have stat:∀ {H':Hp},(∀ b∈fp,H' b=none)→∀ b∈fp,FpOk X pins H' b:=λhn b hb=>⟨hn b hb,(f2 b hb).2⟩
 refine codeAny_forLoop_any (λn s'=>∃ i σ' H',Inv X pins σ' H' s'∧tn i s'.heap∧(∀ b∈fp,H' b=none)∧W i n σ' H') ?_ m0 ⟨0,σ,H2,I2,st2,λb hb=>(f2 b hb).1,w0⟩
 rintro n s3 ⟨i,σ3,H3,I3,st3,fr3,w3⟩
 rcases turn i n σ3 H3 w3 with ⟨stop,qn⟩ | ⟨go,N,hN,step⟩
 ·refine wpAny_passesOwn hp (thn (T.done X rfl rfl rfl hc i pins s3 σ3 H3 X.xe I3 (stat fr3) st3 stop) λr s4 ⟨hr,I4⟩=>?_)
  subst hr
  exact wpAny_execs_nil ⟨σ3,H3,I4,qn⟩
 ·refine wpAny_passesOwn hp (thn (T.item X rfl rfl rfl hc i pins s3 σ3 H3 X.xe I3 (stat fr3) st3 go) λr s4 ⟨u,hr,h4⟩=>?_)
  subst hr
  refine wpAny_passesOwn hp (thn h4 λ_ s5 ⟨x,H5,I5,r5,y5,st5,fr5⟩=>?_)
  have I5':=I5.pinned (stat fr5) (T.obj _ _ st5)
  refine wpAny_passesOwn hp (thn (hg _ s5 σ3 H5 x u _ I5' r5 (step x H5 y5)) λ_ s6 ⟨σ6,H6,I6,q6⟩=>?_)
  refine wpAny_passesOwn hp (thn (hb _ s6 σ6 H6 _ I6 q6) λf s7 q7=>?_)
  have again:∀ {σ7:St}{H7:Hp},Inv X (pins++zg7 fp s5.heap) σ7 H7 s7→N σ7 H7→∃ m,m<n∧∃ i σ' H',Inv X pins σ' H' s7∧tn i s7.heap∧(∀ b∈fp,H' b=none)∧W i m σ' H':=λ{σ7 H7} I7 n7=>by
   obtain⟨m',hm,w7⟩:=hN σ7 H7 n7
   refine⟨m',hm,i+1,σ7,H7,I7.unpinned,T.keep _ _ _ st5 λb hb o e=>(I7.pin (b,o) (List.mem_append_right _ (List.mem_append_right _ (zdA hb e)))).1,λb hb=>?_,w7⟩
   obtain⟨o,e,d⟩:=T.obj _ _ st5 b hb
   exact (I7.pin (b,o) (List.mem_append_right _ (List.mem_append_right _ (zdA hb e)))).2.1
  cases f with
  | next=>obtain⟨σ7,H7,I7,n7⟩:=q7;exact again I7 n7
  | cont=>obtain⟨σ7,H7,I7,n7⟩:=q7;exact again I7 n7
  | brk=>obtain⟨σ7,H7,I7,q7⟩:=q7;exact⟨σ7,H7,I7.unpinned,q7⟩
  | ret v=>obtain⟨x7,σ7,H7,I7,r7,q7⟩:=q7;exact⟨x7,σ7,H7,I7.unpinned,r7,q7⟩
end

theorem zlX {K:Fg}{a:Addr}{xs:List V}{g:TG}{tb:TS}{D:Ends}{σ:St}{H:Hp}(Pv:Nat→St→Hp→Prop) (h0:Pv 0 σ H) (hl:∀ i σ H,i≤xs.length→Pv i σ H→SqL K H a xs)
  (hs:∀ i x σ H,xs[i]?=some x→Pv i σ H→g x σ H λσ2 H2=>tb {D with nx:=Pv (i+1),ct:=Pv (i+1),bk:=D.nx} σ2 H2) (hd:∀ σ H,Pv xs.length σ H→D.nx σ H) :
  ∃ W:Nat→Nat→St→Hp→Prop,(∃ m,W 0 m σ H)∧∀ i m σ H,W i m σ H→
   ((Itl K a).stop i H∧D.nx σ H)∨((Itl K a).go i H∧∃ N:St→Hp→Prop,(∀ σ' H',N σ' H'→∃ m',m'<m∧W (i+1) m' σ' H')∧∀ x H',(Itl K a).yld i H x H'→g x σ H' λσ2 H2=>tb {D with nx:=N,ct:=N,bk:=D.nx} σ2 H2):=by
 refine⟨λi m σ H=>m=xs.length - i∧i≤xs.length∧Pv i σ H,⟨xs.length,by simp,Nat.zero_le _,h0⟩,?_⟩
 rintro i m σ H ⟨rfl,hi,p⟩
 have q:=hl i σ H hi p
 by_cases hlt:i<xs.length
 ·refine .inr ⟨⟨xs,xs[i],q,by simp[hlt]⟩,Pv (i+1),λσ' H' p'=>⟨xs.length - (i+1),by omega,rfl,hlt,p'⟩,λx H' y=>?_⟩
  obtain⟨e,y⟩:=y
  subst e
  exact hs i x σ _ (y xs q) p
 ·have e:i=xs.length:=by omega
  subst e
  exact .inl ⟨⟨xs,q,Nat.le_refl _⟩,hd σ H p⟩
theorem zkx {lo:Int}{n:Nat}{g:TG}{tb:TS}{D:Ends}{σ:St}{H:Hp}(Pv:Nat→St→Hp→Prop) (h0:Pv 0 σ H)
  (hs:∀ i σ H,i<n→Pv i σ H→g (.int (lo+i)) σ H λσ2 H2=>tb {D with nx:=Pv (i+1),ct:=Pv (i+1),bk:=D.nx} σ2 H2) (hd:∀ σ H,Pv n σ H→D.nx σ H) :
  ∃ W:Nat→Nat→St→Hp→Prop,(∃ m,W 0 m σ H)∧∀ i m σ H,W i m σ H→
   ((Itr lo n).stop i H∧D.nx σ H)∨((Itr lo n).go i H∧∃ N:St→Hp→Prop,(∀ σ' H',N σ' H'→∃ m',m'<m∧W (i+1) m' σ' H')∧∀ x H',(Itr lo n).yld i H x H'→g x σ H' λσ2 H2=>tb {D with nx:=N,ct:=N,bk:=D.nx} σ2 H2):=by
 refine⟨λi m σ H=>m=n - i∧i≤n∧Pv i σ H,⟨n,by simp,Nat.zero_le _,h0⟩,?_⟩
 rintro i m σ H ⟨rfl,hi,p⟩
 by_cases hlt:i<n
 ·refine .inr ⟨hlt,Pv (i+1),λσ' H' p'=>⟨n - (i+1),by omega,rfl,hlt,p'⟩,λx H' y=>?_⟩
  obtain⟨e,y⟩:=y
  subst e y
  exact hs i σ _ hlt p
 ·have e:i=n:=by omega
  subst e
  exact .inl ⟨Nat.le_refl _,hd σ H p⟩
end L2

namespace L2
open PySem PySem.Spec PyProof.Rows

abbrev R2:=V→V→Hp→VK→Prop
def OpR (X:Cx) (f:Value→Value→Sem Value) (r:R2):Prop:=
 ∀ (pins:List (Addr × Obj)) (s:Shared) (σ:St) (H:Hp) (x y:V) (v u:Value) (Q:VK),Inv X pins σ H s→RelV x v→RelV y u→r x y H Q→
  wpAny (model X.prog X.w) X.A (f v u) (EP X pins σ Q) X.xe s
def UnR (X:Cx) (f:Value→Sem Value) (r:V→Hp→VK→Prop):Prop:=
 ∀ (pins:List (Addr × Obj)) (s:Shared) (σ:St) (H:Hp) (x:V) (v:Value) (Q:VK),Inv X pins σ H s→RelV x v→r x H Q→
  wpAny (model X.prog X.w) X.A (f v) (EP X pins σ Q) X.xe s
def zcu (X:Cx) (f:Value) (r:List V→Hp→VK→Prop):Prop:=
 ∀ (pins:List (Addr × Obj)) (s:Shared) (σ:St) (H:Hp) (xs:List V) (us:List Value) (Q:VK),Inv X pins σ H s→Vals xs us→r xs H Q→
  wpAny (model X.prog X.w) X.A (call f us) (EP X pins σ Q) X.xe s
def TruR (X:Cx) (r:V→Hp→(Bool→Hp→Prop)→Prop):Prop:=
 ∀ (pins:List (Addr × Obj)) (s:Shared) (σ:St) (H:Hp) (x:V) (v:Value) (Q:Bool→Hp→Prop),Inv X pins σ H s→RelV x v→r x H Q→
  wpAny (model X.prog X.w) X.A (truthy v) (TP X pins σ Q) X.xe s
def tOp (r:R2) (ta tb:TE):TE:=λσ H Q=>ta σ H λx H1=>tb σ H1 λy H2=>r x y H2 Q
def tUn (r:V→Hp→VK→Prop) (ta:TE):TE:=λσ H Q=>ta σ H λx H1=>r x H1 Q
def rI (C:Int→Int→Prop) (g:Int→Int→V):R2:=λx y H Q=>∃ i j,x=.int i∧y=.int j∧C i j∧Q (g i j) H
def rI0 (g:Int→Int→V):R2:=λx y H Q=>∃ i j,x=.int i∧y=.int j∧Q (g i j) H
def rU (g:Int→V):V→Hp→VK→Prop:=λx H Q=>∃ i,x=.int i∧Q (g i) H
section
variable {X : Cx} {a b c : Expr} {ta tb tc : TE} {pos : Pos}

theorem binT (ha:PE X a ta) (hb:PE X b tb) {pins:List (Addr × Obj)}{s:Shared}{σ:St}{H:Hp}{R:V→V→Hp→Prop}(I:Inv X pins σ H s)
  (h:ta σ H λx H1=>tb σ H1 λy H2=>R x y H2) {Q:Value→Shared→Prop}{f:Value→Value→Sem Value}
  (hf:∀ v u s2 x y H2,Inv X pins σ H2 s2→RelV x v→RelV y u→R x y H2→wpAny (model X.prog X.w) X.A (f v u) Q X.xe s2) :
  wpAny (model X.prog X.w) X.A (eval a X.env) (λv s₁=>wpAny (model X.prog X.w) X.A (eval b X.env) (λu s₂=>wpAny (model X.prog X.w) X.A (f v u) Q X.xe s₂) X.xe s₁) X.xe s:=by
 refine thn (ha pins s σ H _ I h) λv s1 ⟨x,H1,I1,r1,q1⟩=>?_
 refine thn (hb pins s1 σ H1 _ I1 q1) λu s2 ⟨y,H2,I2,r2,q2⟩=>?_
 exact hf v u s2 x y H2 I2 r1 r2 q2
theorem zaE {op:Operator}{r:R2}(ho:OpR X (binaryOp op) r) (ha:PE X a ta) (hb:PE X b tb):PE X (.BinOp a op b pos) (tOp r ta tb):=by
 intro pins s σ H Q I h
 exact wpAny_BinOp (binT ha hb I h λv u s2 x y H2 I2 rx ry q=>ho pins s2 σ H2 x y v u Q I2 rx ry q)
theorem zcX {op:UnaryOp}{r:V→Hp→VK→Prop}(ho:UnR X (unaryOp op) r) (ha:PE X a ta):PE X (.UnaryOp op a pos) (tUn r ta):=by
 intro pins s σ H Q I h
 exact UnaryOp_ (thn (ha pins s σ H _ I h) λv s1 ⟨x,H1,I1,r1,q1⟩=>ho pins s1 σ H1 x v Q I1 r1 q1)
theorem opI {f:Value→Value→Sem Value}{C:Int→Int→Prop}{g:Int→Int→Int}
  (rule:∀ (i j:Int) (t u:Tok) (s:Shared) (Q:Value→Shared→Prop) (E:Value→Shared→Prop),C i j→Q (.int (g i j) s.toks) {s with toks:=s.toks+1}→wpAny (model X.prog X.w) X.A (f (.int i t) (.int j u)) Q E s) :
  OpR X f (rI C λi j=>.int (g i j)):=by
 intro pins s σ H x y v u Q I rx ry h
 obtain⟨i,j,rfl,rfl,hc,q⟩:=h
 obtain⟨t,rfl⟩:=rx
 obtain⟨t',rfl⟩:=ry
 exact rule i j t t' s _ _ hc ⟨.int (g i j),H,I.tok _,⟨_,rfl⟩,q⟩
theorem opI0 {f:Value→Value→Sem Value}{g:Int→Int→Int}
  (rule:∀ (i j:Int) (t u:Tok) (s:Shared) (Q:Value→Shared→Prop) (E:Value→Shared→Prop),Q (.int (g i j) s.toks) {s with toks:=s.toks+1}→wpAny (model X.prog X.w) X.A (f (.int i t) (.int j u)) Q E s) :
  OpR X f (rI0 λi j=>.int (g i j)):=by
 intro pins s σ H x y v u Q I rx ry h
 obtain⟨i,j,rfl,rfl,q⟩:=h
 obtain⟨t,rfl⟩:=rx
 obtain⟨t',rfl⟩:=ry
 exact rule i j t t' s _ _ ⟨.int (g i j),H,I.tok _,⟨_,rfl⟩,q⟩
theorem opB0 {f:Value→Value→Sem Value}{g:Int→Int→Bool}
  (rule:∀ (i j:Int) (t u:Tok) (s:Shared) (Q:Value→Shared→Prop) (E:Value→Shared→Prop),Q (.bool (g i j)) s→wpAny (model X.prog X.w) X.A (f (.int i t) (.int j u)) Q E s) :
  OpR X f (rI0 λi j=>.bl (g i j)):=by
 intro pins s σ H x y v u Q I rx ry h
 obtain⟨i,j,rfl,rfl,q⟩:=h
 obtain⟨t,rfl⟩:=rx
 obtain⟨t',rfl⟩:=ry
 exact rule i j t t' s _ _ ⟨.bl (g i j),H,I,rfl,q⟩
def CDiv (i j:Int):Prop:=0<j∧j<1073741824
def CPow (i j:Int):Prop:=0≤j∧j≤1000000∧i.natAbs<2 ^ 64
def CMul (i j:Int):Prop:=(-(2 ^ 64)<i∧i<2 ^ 64)∨(-(2 ^ 64)<j∧j<2 ^ 64)
theorem CMul.ok {i j:Int}(h:CMul i j):IntMulOk i j:=by
 rcases h with ⟨h1,h2⟩ | ⟨h1,h2⟩
 ·exact .of_left (intBits_le_64 h1 h2)
 ·exact .of_right (intBits_le_64 h1 h2)
theorem zoS:OpR X (binaryOp .Add) (rI0 λi j=>.int (i+j)):=opI0 λ_ _ _ _ _ _ _ q=>add_int q
theorem zky:OpR X (binaryOp .Sub) (rI0 λi j=>.int (i - j)):=opI0 λ_ _ _ _ _ _ _ q=>sub_int q
theorem zoT:OpR X (binaryOp .Mult) (rI CMul λi j=>.int (i * j)):=opI λ_ _ _ _ _ _ _ hc q=>mul_int q hc.ok
theorem zcY:OpR X (binaryOp .FloorDiv) (rI CDiv λi j=>.int (i / j)):=opI λi j _ _ _ _ _ hc q=>by
 have h1:(0:Int)<j:=hc.1
 have h2:j<1073741824:=hc.2
 exact floordiv_int (by omega) (by rw[Int.fdiv_eq_ediv_of_nonneg i (by omega)];exact q) (.inl (PyProof.noPylong_small (by omega)))
theorem zce:OpR X (binaryOp .Mod) (rI (λ_ j=>0<j) λi j=>.int (i % j)):=opI λi j _ _ _ _ _ hc q=>by
 have h1:(0:Int)<j:=hc
 exact mod_int' (by omega) (by rw[Int.fmod_eq_emod_of_nonneg i (by omega)];exact q)
theorem zg8:OpR X (binaryOp .Pow) (rI CPow λi j=>.int (i ^ j.toNat)):=opI λ_ _ _ _ _ _ _ hc q=>pow_int_small hc.1 hc.2.1 hc.2.2 q
theorem unI {f:Value→Sem Value}{g:Int→Int}
  (rule:∀ (i:Int) (t:Tok) (s:Shared) (Q:Value→Shared→Prop) (E:Value→Shared→Prop),Q (.int (g i) s.toks) {s with toks:=s.toks+1}→wpAny (model X.prog X.w) X.A (f (.int i t)) Q E s) :
  UnR X f (rU λi=>.int (g i)):=by
 intro pins s σ H x v Q I rx h
 obtain⟨i,rfl,q⟩:=h
 obtain⟨t,rfl⟩:=rx
 exact rule i t s _ _ ⟨.int (g i),H,I.tok _,⟨_,rfl⟩,q⟩
theorem zbM:UnR X (unaryOp .USub) (rU λi=>.int (-i)):=unI λ_ _ _ _ _ q=>neg_int q
end

def scal:V→V→Bool
 | .non,.non=>true | .non,.int _=>true | .int _,.non=>true | .non,.bl _=>true | .bl _,.non=>true | .non,.str _=>true | .str _,.non=>true
 | .int _,.int _=>true | .bl _,.bl _=>true | .str _,.str _=>true | .byt _,.byt _=>true
 | .int _,.str _=>true | .str _,.int _=>true | .bl _,.str _=>true | .str _,.bl _=>true
 | _,_=>false
def rEq:R2:=λx y H Q=>scal x y=true∧Q (.bl (decide (x=y))) H
def rNe:R2:=λx y H Q=>scal x y=true∧Q (.bl (!decide (x=y))) H
theorem zkz {i j:Int} : decide (V.int i=V.int j)=(i == j):=by
 rw[Bool.eq_iff_iff]
 simp
theorem zmZ {i j:Bool} : decide (V.bl i=V.bl j)=(i == j):=by
 rw[Bool.eq_iff_iff]
 simp
theorem zkA {i j:Str} : decide (V.str i=V.str j)=(i == j):=by
 rw[Bool.eq_iff_iff]
 simp
theorem zkB {i j:Array UInt8} : decide (V.byt i=V.byt j)=(i.toList == j.toList):=by
 rw[Bool.eq_iff_iff]
 cases i
 cases j
 simp
section
variable {X : Cx} {a b c : Expr} {ta tb tc : TE} {pos : Pos}
theorem za1 {pins:List (Addr × Obj)}{σ:St}{H:Hp}{s:Shared}{Q:VK}{k k':Bool}(I:Inv X pins σ H s) (q:Q (.bl k) H) (e:k=k'):EP X pins σ Q (.bool k') s:=by
 subst e
 exact⟨.bl k,H,I,rfl,q⟩
theorem zny:OpR X (compareOp .Eq) rEq:=by
 intro pins s σ H x y v u Q I rx ry h
 obtain⟨hs,q⟩:=h
 cases x with
 | non=>
  cases rx
  cases y with
  | non=>cases ry;exact PySem.EqNone.eq_none_none (za1 I q (by simp))
  | bl j=>cases ry;exact PySem.EqNone.eq_none_bool (za1 I q (by simp))
  | int j=>obtain⟨t',rfl⟩:=ry;exact PySem.EqNone.eq_none_int (za1 I q (by simp))
  | str j=>obtain⟨t',rfl⟩:=ry;exact PySem.EqNone.eq_none_str (za1 I q (by simp))
  | _=>exact absurd (show false=true from hs) Bool.false_ne_true
 | bl i=>
  cases rx
  cases y with
  | non=>cases ry;exact PySem.EqNone.eq_bool_none (za1 I q (by simp))
  | bl j=>cases ry;exact eq_bool (za1 I q zmZ)
  | str j=>obtain⟨t',rfl⟩:=ry;exact PySem.EqMixed.eq_bool_str (za1 I q (by simp))
  | _=>exact absurd (show false=true from hs) Bool.false_ne_true
 | int i=>
  obtain⟨t,rfl⟩:=rx
  cases y with
  | non=>cases ry;exact PySem.EqNone.eq_int_none (za1 I q (by simp))
  | int j=>obtain⟨t',rfl⟩:=ry;exact eq_int (za1 I q zkz)
  | str j=>obtain⟨t',rfl⟩:=ry;exact PySem.EqMixed.eq_int_str (za1 I q (by simp))
  | _=>exact absurd (show false=true from hs) Bool.false_ne_true
 | str i=>
  obtain⟨t,rfl⟩:=rx
  cases y with
  | non=>cases ry;exact PySem.EqNone.eq_str_none (za1 I q (by simp))
  | bl j=>cases ry;exact PySem.EqMixed.eq_str_bool (za1 I q (by simp))
  | int j=>obtain⟨t',rfl⟩:=ry;exact PySem.EqMixed.eq_str_int (za1 I q (by simp))
  | str j=>obtain⟨t',rfl⟩:=ry;exact eq_str (za1 I q zkA)
  | _=>exact absurd (show false=true from hs) Bool.false_ne_true
 | byt i=>
  obtain⟨t,rfl⟩:=rx
  cases y with
  | byt j=>obtain⟨t',rfl⟩:=ry;exact PySem.W.eq_bytes (za1 I q zkB)
  | _=>exact absurd (show false=true from hs) Bool.false_ne_true
 | _=>cases y <;> exact absurd (show false=true from hs) Bool.false_ne_true
theorem op_ne:OpR X (compareOp .NotEq) rNe:=by
 intro pins s σ H x y v u Q I rx ry h
 obtain⟨hs,q⟩:=h
 cases x with
 | non=>
  cases rx
  cases y with
  | non=>cases ry;exact PySem.EqNone.ne_none_none (za1 I q (by simp))
  | bl j=>cases ry;exact PySem.EqNone.ne_none_bool (za1 I q (by simp))
  | int j=>obtain⟨t',rfl⟩:=ry;exact PySem.EqNone.ne_none_int (za1 I q (by simp))
  | str j=>obtain⟨t',rfl⟩:=ry;exact PySem.EqNone.ne_none_str (za1 I q (by simp))
  | _=>exact absurd (show false=true from hs) Bool.false_ne_true
 | bl i=>
  cases rx
  cases y with
  | non=>cases ry;exact PySem.EqNone.ne_bool_none (za1 I q (by simp))
  | bl j=>cases ry;exact ne_bool (za1 I q (congrArg not zmZ))
  | str j=>obtain⟨t',rfl⟩:=ry;exact PySem.EqMixed.ne_bool_str (za1 I q (by simp))
  | _=>exact absurd (show false=true from hs) Bool.false_ne_true
 | int i=>
  obtain⟨t,rfl⟩:=rx
  cases y with
  | non=>cases ry;exact PySem.EqNone.ne_int_none (za1 I q (by simp))
  | int j=>obtain⟨t',rfl⟩:=ry;exact ne_int (za1 I q (congrArg not zkz))
  | str j=>obtain⟨t',rfl⟩:=ry;exact PySem.EqMixed.ne_int_str (za1 I q (by simp))
  | _=>exact absurd (show false=true from hs) Bool.false_ne_true
 | str i=>
  obtain⟨t,rfl⟩:=rx
  cases y with
  | non=>cases ry;exact PySem.EqNone.ne_str_none (za1 I q (by simp))
  | bl j=>cases ry;exact PySem.EqMixed.ne_str_bool (za1 I q (by simp))
  | int j=>obtain⟨t',rfl⟩:=ry;exact PySem.EqMixed.ne_str_int (za1 I q (by simp))
  | str j=>obtain⟨t',rfl⟩:=ry;exact ne_str (za1 I q (congrArg not zkA))
  | _=>exact absurd (show false=true from hs) Bool.false_ne_true
 | byt i=>
  obtain⟨t,rfl⟩:=rx
  cases y with
  | byt j=>obtain⟨t',rfl⟩:=ry;exact PySem.W.ne_bytes (za1 I q (congrArg not zkB))
  | _=>exact absurd (show false=true from hs) Bool.false_ne_true
 | _=>cases y <;> exact absurd (show false=true from hs) Bool.false_ne_true
theorem zlY:OpR X (compareOp .Lt) (rI0 λi j=>.bl (decide (i<j))):=opB0 λ_ _ _ _ _ _ _ q=>lt_int q
theorem zg9:OpR X (compareOp .LtE) (rI0 λi j=>.bl (decide (i≤j))):=opB0 λ_ _ _ _ _ _ _ q=>le_int q
theorem zoU:OpR X (compareOp .Gt) (rI0 λi j=>.bl (decide (j<i))):=opB0 λ_ _ _ _ _ _ _ q=>gt_int q
theorem zha:OpR X (compareOp .GtE) (rI0 λi j=>.bl (decide (j≤i))):=opB0 λ_ _ _ _ _ _ _ q=>ge_int q
theorem zfd:OpR X (compareOp .Is) (λx y H Q=>y=.non∧Q (.bl (decide (x=.non))) H):=by
 intro pins s σ H x y v u Q I rx ry h
 obtain⟨rfl,q⟩:=h
 cases ry
 refine is_none_gen (za1 I q ?_)
 cases x <;> first
  | (cases rx;rfl)
  | (obtain⟨t,rfl⟩:=rx;rfl)
theorem zkC:OpR X (compareOp .IsNot) (λx y H Q=>y=.non∧Q (.bl (!decide (x=.non))) H):=by
 intro pins s σ H x y v u Q I rx ry h
 obtain⟨rfl,q⟩:=h
 cases ry
 refine isnot_none_gen (za1 I q ?_)
 cases x <;> first
  | (cases rx;rfl)
  | (obtain⟨t,rfl⟩:=rx;rfl)
theorem OpR.or {f:Value→Value→Sem Value}{r r':R2}(h:OpR X f r) (h':OpR X f r'):OpR X f (λx y H Q=>r x y H Q∨r' x y H Q):=by
 intro pins s σ H x y v u Q I rx ry q
 rcases q with q | q
 ·exact h pins s σ H x y v u Q I rx ry q
 ·exact h' pins s σ H x y v u Q I rx ry q
theorem zay (b:Expr) {op:CmpOp}(h:op≠.In:=by decide) (h2:op≠.NotIn:=by decide):behindInMarks op b=false:=by
 have e1:(op == CmpOp.In)=false:=by cases op <;> first | rfl | exact absurd rfl h
 have e2:(op == CmpOp.NotIn)=false:=by cases op <;> first | rfl | exact absurd rfl h2
 cases b <;> simp[behindInMarks,e1,e2]
theorem zbD {op:CmpOp}{r:R2}(ho:OpR X (compareOp op) r) (ha:PE X a ta) (hb:PE X b tb) (hm:behindInMarks op b=false):PE X (.Compare a [op] [b] pos) (tOp r ta tb):=by
 intro pins s σ H Q I h
 exact wpAny_Compare1 (binT ha hb I h λv u s2 x y H2 I2 rx ry q=>ho pins s2 σ H2 x y v u Q I2 rx ry q) hm
def znz (t:TE):TT:=λσ H Q=>t σ H λx H'=>∃ k,x=.bl k∧Q k H'
theorem zau {op:CmpOp}{r:R2}(ho:OpR X (compareOp op) r) (ha:PE X a ta) (hb:PE X b tb) (hm:behindInMarks op b=false):PT X (.Compare a [op] [b] pos) (znz (tOp r ta tb)):=by
 intro pins s σ H Q I h
 refine wpAny_isTrue_Compare1 (thn (ha pins s σ H _ I h) λv s1 ⟨x,H1,I1,r1,q1⟩=>thn (hb pins s1 σ H1 _ I1 q1) λu s2 ⟨y,H2,I2,r2,q2⟩=>
  thn (ho pins s2 σ H2 x y v u _ I2 r1 r2 q2) λc s3 ⟨z,H3,I3,r3,k,e,q3⟩=>?_) hm
 subst e
 cases r3
 exact wpAny_truthy_bool ⟨H3,I3,q3⟩
def zkD (r r':R2) (ta tb tc:TE):TE:=λσ H Q=>ta σ H λx H1=>tb σ H1 λy H2=>r x y H2 λz H3=>∃ k,z=.bl k∧
 (if k=true then tc σ H3 λw' H4=>r' y w' H4 Q else Q (.bl false) H3)
theorem zlZ {op op':CmpOp}{r r':R2}(ho:OpR X (compareOp op) r) (ho':OpR X (compareOp op') r') (ha:PE X a ta) (hb:PE X b tb) (hc:PE X c tc)
  (hm:lastMarks [op,op'] [b,c]=false:=by with_unfolding_all rfl):PE X (.Compare a [op,op'] [b,c] pos) (zkD r r' ta tb tc):=by
 intro pins s σ H Q I h
 refine Compare_chain (thn (ha pins s σ H _ I h) λv s1 ⟨x,H1,I1,r1,q1⟩=>chain_link (thn (hb pins s1 σ H1 _ I1 q1) λu s2 ⟨y,H2,I2,r2,q2⟩=>
  thn (ho pins s2 σ H2 x y v u _ I2 r1 r2 q2) λd s3 ⟨z,H3,I3,r3,k,e,q3⟩=>?_)) hm
 subst e
 cases r3
 refine wpAny_truthy_bool ?_
 cases k with
 | false=>exact ite_ff ⟨.bl false,H3,I3,rfl,q3⟩
 | true=>exact ite_tt (chain_last (thn (hc pins s3 σ H3 _ I3 q3) λw' s4 ⟨z',H4,I4,r4,q4⟩=>ho' pins s4 σ H4 y z' u w' Q I4 r2 r4 q4))
theorem zi5 {op op':CmpOp}{r r':R2}(ho:OpR X (compareOp op) r) (ho':OpR X (compareOp op') r') (ha:PE X a ta) (hb:PE X b tb) (hc:PE X c tc)
  (hm:lastMarks [op,op'] [b,c]=false:=by with_unfolding_all rfl):PT X (.Compare a [op,op'] [b,c] pos) (znz (zkD r r' ta tb tc)):=by
 intro pins s σ H Q I h
 refine isTrue_chain (thn (ha pins s σ H _ I h) λv s1 ⟨x,H1,I1,r1,q1⟩=>test_link (thn (hb pins s1 σ H1 _ I1 q1) λu s2 ⟨y,H2,I2,r2,q2⟩=>
  thn (ho pins s2 σ H2 x y v u _ I2 r1 r2 q2) λd s3 ⟨z,H3,I3,r3,k,e,q3⟩=>?_)) hm
 subst e
 cases r3
 refine wpAny_truthy_bool ?_
 cases k with
 | false=>
  obtain⟨k',e',q'⟩:=q3
  cases e'
  exact ite_ff ⟨H3,I3,q'⟩
 | true=>
  refine ite_tt (test_last (thn (hc pins s3 σ H3 _ I3 q3) λw' s4 ⟨z',H4,I4,r4,q4⟩=>thn (ho' pins s4 σ H4 y z' u w' _ I4 r2 r4 q4) λd' s5 ⟨z2,H5,I5,r5,k2,e2,q5⟩=>?_))
  subst e2
  cases r5
  exact wpAny_truthy_bool ⟨H5,I5,q5⟩
def TruV (K:Fg) (x:V) (H:Hp) (k:Bool):Prop:=
 match x with
 | .non=>k=false
 | .bl b=>k=b
 | .int i=>k=(i != 0)
 | .str y=>y.length≤sizeLine∧k=((y.length:Int) != 0)
 | .byt y=>y.size≤sizeLine∧k=((y.size:Int) != 0)
 | .ref p=>(∃ xs,SqL K H p xs∧k=!xs.isEmpty)∨(∃ xs,SqT K H p xs∧k=!xs.isEmpty)∨∃ kvs,H p=some (.dK kvs)∧k=!kvs.isEmpty
 | _=>False
theorem zjG {κ:Type}{kvs:List (κ × V)}{vs:List (κ × Value)}(r:KV kvs vs):(!vs.isEmpty)=!kvs.isEmpty:=by
 cases r <;> rfl
theorem zgh {xs:List V}{its:List Value}(r:Vals xs its):(!its.toArray.isEmpty)=!xs.isEmpty:=by
 cases r <;> simp
theorem zgi:(sizeLine:Nat)<2 ^ 63:=by rw[sizeLine_eq];decide
theorem zoV:TruR X (λx H Q=>∃ k,TruV X.K x H k∧Q k H):=by
 intro pins s σ H x v Q I rx h
 obtain⟨k,e,q⟩:=h
 have hl:=zgi
 have hs:sizeLine=16777216:=sizeLine_eq
 cases x with
 | non=>
  cases rx
  have e':k=false:=e
  subst e'
  exact truthy_none ⟨H,I,q⟩
 | bl b=>
  cases rx
  have e':k=b:=e
  subst e'
  exact wpAny_truthy_bool ⟨H,I,q⟩
 | int i=>
  obtain⟨t,rfl⟩:=rx
  have e':k=(i != 0):=e
  subst e'
  exact PySem.P.truthy_int ⟨H,I,q⟩
 | str y=>
  obtain⟨t,rfl⟩:=rx
  obtain⟨hy,e'⟩:y.length≤sizeLine∧k=((y.length:Int) != 0):=e
  subst e'
  exact PySem.P.truthy_str (by omega) ⟨H,I.tok _,q⟩
 | byt y=>
  obtain⟨t,rfl⟩:=rx
  obtain⟨hy,e'⟩:y.size≤sizeLine∧k=((y.size:Int) != 0):=e
  subst e'
  exact PySem.W.truthy_bytes (by omega) ⟨H,I.tok _,q⟩
 | ref p=>
  cases rx
  have e':(∃ xs,SqL X.K H p xs∧k=!xs.isEmpty)∨(∃ xs,SqT X.K H p xs∧k=!xs.isEmpty)∨∃ kvs,H p=some (.dK kvs)∧k=!kvs.isEmpty:=e
  rcases e' with ⟨xs,hx,e'⟩ | ⟨xs,hx,e'⟩ | ⟨kvs,hx,e'⟩
  ·subst e'
   obtain⟨its,r,pl,hz⟩:=I.list hx
   have hlen:=r.length
   exact wpAny_truthy_list pl.isList (by simp only[zst];omega) ⟨H,I.tok _,by rw[zgh r];exact q⟩
  ·subst e'
   obtain⟨its,r,pl,hz⟩:=I.tuple hx
   have hlen:=r.length
   exact truthy_tuple pl (by simp only[zst];omega) ⟨H,I.tok _,by rw[zgh r];exact q⟩
  ·subst e'
   obtain⟨hz,hS,vs,r,m⟩:kvs.length≤sizeLine∧(p == sysModules)=false∧∃ vs,KV kvs vs∧s.heap.DictOf (za9 X.prog X.w) p vs:=I.hok p _ hx
   have hlen:kvs.length=vs.length:=Paired.length r
   exact wpAny_truthy_dict hS m (by omega) ⟨H,I.tok _,by rw[zjG r];exact q⟩
 | _=>exact (show False from e).elim
theorem zl0 (ha:PE X a ta) (he:∀ whole,isTrue a X.env whole=(do let v ←whole;standAt a.pos;holding [v] (truthy v))) :
  PT X a (λσ H Q=>ta σ H λx H'=>∃ k,TruV X.K x H' k∧Q k H'):=by
 intro pins s σ H Q I h
 exact isTrue_plain (thn (ha pins s σ H _ I h) λv s1 ⟨x,H1,I1,r1,q1⟩=>zoV pins s1 σ H1 x v Q I1 r1 q1) (he _)
theorem zik {x:V}{us:List Value}(r:Vals [x] us):∃ u,us=[u]∧RelV x u:=by
 cases r with
 | cons r1 r2=>cases r2;exact⟨_,rfl,r1⟩
theorem znA {x y:V}{us:List Value}(r:Vals [x,y] us):∃ u w',us=[u,w']∧RelV x u∧RelV y w':=by
 cases r with
 | cons r1 r2=>
  cases r2 with
  | cons r3 r4=>cases r4;exact⟨_,_,rfl,r1,r3⟩
theorem zkE (hc:X.calm=true):zcu X (.builtin "max") (λxs H Q=>∃ i j,xs=[.int i,.int j]∧Q (.int (if j>i then j else i)) H):=by
 intro pins s σ H xs us Q I r h
 obtain⟨i,j,rfl,q⟩:=h
 obtain⟨u,w',rfl,⟨t,rfl⟩,⟨t',rfl⟩⟩:=znA r
 refine max_two_ints (I.ok.hd hc) λh' tk k=>⟨_,H,I.kept k,?_,q⟩
 by_cases hj:j>i
 ·rw[if_pos hj,if_pos hj];exact⟨_,rfl⟩
 ·rw[if_neg hj,if_neg hj];exact⟨_,rfl⟩
end
end L2

namespace L2
open PySem PySem.Spec PyProof.Rows

structure ObjM (h:Heap) (x dx C:Addr) (mA:Str→Option Value):Prop where
 obj:h.get? x=some (PySem.W.instObj C dx)
 ns:h.Ns1 dx mA
 ne:dx≠x
theorem zkF {h:Heap}{dx:Addr}{mA:Str→Option Value}(n:h.Ns1 dx mA):∃ od,h.get? dx=some od∧∀ name,PySem.W.lookIn name od=some (mA name):=by
 obtain⟨o,es,ep,ho,hd,hk,_,hm⟩:=n
 refine⟨o,ho,λname=>?_⟩
 have e:=hm name
 unfold nsFind findBy at e
 rw[←Array.find?_toList] at e
 unfold PySem.W.lookIn
 rw[hd]
 dsimp only
 split
 ·rename_i y q
  rw[q] at e
  exact congrArg some e
 ·rename_i q
  rw[q] at e
  have a:es.toList.any (·.refKey)=false:=by
   rw[List.any_eq_false]
   intro y hy
   obtain⟨z,t,hkey⟩:=hk y (Array.mem_toList_iff.mp hy)
   simp[DictEntry.refKey,hkey]
  have a':¬ es.toList.any (·.refKey)=true:=by rw[a];exact Bool.false_ne_true
  rw[if_neg a']
  exact congrArg some e
theorem ObjM.look {h:Heap}{x dx C:Addr}{mA:Str→Option Value}(I:ObjM h x dx C mA):∃ od,PySem.W.InstAt h x (PySem.W.instObj C dx) C (some od)∧∀ name,PySem.W.lookIn name od=some (mA name):=
 let ⟨od,ho,hl⟩:=zkF I.ns
 ⟨od,⟨I.obj,rfl,rfl,ho⟩,hl⟩
section
variable {prog : Program} {w : World} {A : Around} {E : Value → Shared → Prop} {s : Shared} {K : Fg} {x dx C f : Addr} {mA : Str → Option Value} {name : Str} {v : Value}

theorem znB {expr:Bool}{Q:Value→Shared→Prop}(X:K.In s.heap) (I:ObjM s.heap x dx C mA) (hg:PySem.W.plainGet K C name=true) (hh:PySem.W.hasDictIn K C=true)
  (ha:PySem.W.findIn K (.ref C) name=some none) (hv:mA name=some v) (hv':PySem.W.handedIn v=true) (h:Q v {s with toks:=s.toks+1}) :
  wpAny (model prog w) A (getAttr (.ref x) name expr) Q E s:=by
 obtain⟨od,J,hl⟩:=I.look
 exact PySem.W.get_value X J (PySem.W.plainGet_of hg).1 (PySem.W.findObj_own hh ha rfl (by rw[hl,hv])) hv' h
theorem zl1 {pl:Sem Bool}{Q:Value × List Value→Shared→Prop}(X:K.In s.heap) (I:ObjM s.heap x dx C mA) (hg:PySem.W.plainGet K C name=true)
  (hf:PySem.W.findIn K (.ref C) name=some (some (.ref f))) (ht:PySem.W.isFn K (.ref f)=true) (hv:mA name=none) (h:Q (.ref f,[.ref x]) s) :
  wpAny (model prog w) A (getMethod (.ref x) name pl) Q E s:=by
 obtain⟨od,J,hl⟩:=I.look
 exact PySem.W.method_fn X J (PySem.W.plainGet_of hg).1 (PySem.W.plainGet_of hg).2 hf (beq_iff_eq.mp ht) (by show (PySem.W.lookIn name od).map (·.isSome)=some false;rw[hl,hv];rfl) h
theorem znC {ns:List Str}{Q:Unit→Shared→Prop}(X:K.In s.heap) (I:ObjM s.heap x dx C mA)
  (hs:PySem.W.findIn K (.ref C) "__setattr__"=some (some (.builtin "object.__setattr__"))) (hp:PySem.W.plainOver K C=true) (ht:PySem.W.takerIn K C name=some none) (hh:PySem.W.hasDictIn K C=true)
  (hw:PySem.Within mA ns) (hsz:ns.length≤sizeLine)
  (h:∀ h',ObjM h' x dx C (λy=>if y=name then some v else mA y)→Heap.SameBut dx s.heap h'→Q () {s with heap:=h',toks:=s.toks+2}) :
  wpAny (model prog w) A (setAttr (.ref x) name v) Q E s:=by
 obtain⟨od,J,hl⟩:=I.look
 refine PySem.W.set_plain X J hs (PySem.W.osa_open (s:={s with toks:=s.toks+1}) (r:=none) X J hp ht λb=>?_)
 obtain⟨cd,hc,hd'⟩:=PySem.W.any_some hh
 have hx:s.heap.get? x=some ⟨.ref C,some dx,.plain,#[]⟩:=I.obj
 refine wpAny_bind (wpAny_pure (wpAny_bind (wpAny_bind (wpAny_loadPart hx (wpAny_bind (PySem.W.Looks.here (s:={s with toks:=s.toks+1}) (PySem.W.looks_clsIn X hc) ?_))))))
 rw[hd']
 refine wpAny_pure (a:=some dx) (wpAny_bind (wpAny_pure (wpAny_bind ?_)))
 refine wpAny_nsSet1 (s:={s with toks:=s.toks+1}) I.ns λh' hn2 hs2=>?_
 obtain⟨oD,esD,epD,hoD,hdD,hcD⟩:=hn2.count (PySem.Within.cons name v hw)
 refine wpAny_bind (wpAny_lookBehind hoD (by rw[hdD];exact pastItsLine_dict (Nat.le_trans hcD (by rw[List.length_cons];omega))) ?_)
 exact wpAny_pure (h _ ⟨(hs2.2 _ (Ne.symm I.ne)).trans I.obj,hn2,I.ne⟩ hs2)
theorem zi6 {R:Result→Shared→Prop}{vs:List Value}{kw:List (Str × Value)}(X:K.In s.heap) (hm:PySem.W.makesIn K C=true)
  (hi:PySem.W.findIn K (.ref C) "__init__"=some (some (.ref f))) (hf:PySem.W.typeIn K (.ref f)=some (.type "function"))
  (h:codeAny (model prog w) (A.under (.builtin "type.__call__" ⟨.ref C::vs,kw⟩)) (.call (.ref f) ⟨.ref (s.heap.objs.size+1)::vs,kw⟩) (PySem.W.InitBack (s.heap.objs.size+1) R)
   {s with heap:=(s.heap.push PySem.W.emptyDict).push (PySem.W.instObj C s.heap.objs.size)}) :
  codeAny (model prog w) A (.call (.ref C) ⟨vs,kw⟩) R s:=by
 obtain⟨hh,g,d,t,os⟩:=s
 exact PySem.W.make_core (PySem.W.makes_of X hm) (PySem.W.looks_findIn X hi) (λself=>PySem.W.bind_fn X self hf) (.inl rfl) h
end

def putF (f:Str) (v:V):List (Str × V)→List (Str × V)
 | []=>[(f,v)]
 | (g,x)::r=>if g=f then (g,v)::r else (g,x)::putF f v r
theorem zaN (f g:Str) (v:V):∀ fs:List (Str × V),(putF f v fs).lookup g=if g=f then some v else fs.lookup g
 | []=>by
  show List.lookup g [(f,v)]=_
  by_cases h:g=f
  ·have hb:(g == f)=true:=beq_iff_eq.mpr h
   simp only[List.lookup,hb,if_pos h]
  ·have hb:(g == f)=false:=beq_eq_false_iff_ne.mpr h
   simp only[List.lookup,hb,if_neg h]
 | (k,x)::r=>by
  have ih:=zaN f g v r
  rw[show putF f v ((k,x)::r)=(if k=f then (k,v)::r else (k,x)::putF f v r) from rfl]
  by_cases hk:k=f
  ·rw[if_pos hk]
   by_cases h:g=k
   ·have hb:(g == k)=true:=beq_iff_eq.mpr h
    simp only[List.lookup,hb,if_pos (h.trans hk)]
   ·have hb:(g == k)=false:=beq_eq_false_iff_ne.mpr h
    simp only[List.lookup,hb,if_neg (λe:g=f=>h (e.trans hk.symm))]
  ·rw[if_neg hk]
   by_cases h:g=k
   ·have hb:(g == k)=true:=beq_iff_eq.mpr h
    simp only[List.lookup,hb,if_neg (λe:g=f=>hk (h.symm.trans e))]
   ·have hb:(g == k)=false:=beq_eq_false_iff_ne.mpr h
    simp only[List.lookup,hb]
    exact ih
theorem zfe (f:Str) (v:V):∀ fs:List (Str × V),f∈(putF f v fs).map (·.1)∧∀ g,g∈fs.map (·.1)→g∈(putF f v fs).map (·.1)
 | []=>⟨by simp[putF],λg h=>by simp at h⟩
 | (k,x)::r=>by
  obtain⟨i1,i2⟩:=zfe f v r
  rw[show putF f v ((k,x)::r)=(if k=f then (k,v)::r else (k,x)::putF f v r) from rfl]
  by_cases hk:k=f
  ·rw[if_pos hk]
   subst hk
   exact⟨by simp,λg h=>by simpa using h⟩
  ·rw[if_neg hk]
   refine⟨?_,λg h=>?_⟩
   ·rw[zmc]
    exact List.mem_cons_of_mem _ i1
   ·rw[zmc] at h ⊢
    rcases List.mem_cons.mp h with e | e
    ·exact List.mem_cons.mpr (.inl e)
    ·exact List.mem_cons_of_mem _ (i2 g e)
theorem zdV (f:Str) (v:V):∀ fs:List (Str × V),(putF f v fs).length≤fs.length+1
 | []=>by simp[putF]
 | (k,x)::r=>by
  have ih:=zdV f v r
  rw[show putF f v ((k,x)::r)=(if k=f then (k,v)::r else (k,x)::putF f v r) from rfl]
  by_cases hk:k=f
  ·rw[if_pos hk,List.length_cons,List.length_cons];omega
  ·rw[if_neg hk,List.length_cons,List.length_cons];omega
theorem RelO.some_of {v:V}{o:Option Value}(r:RelO (some v) o):∃ u,o=some u∧RelV v u:=by
 cases o with
 | none=>exact (show False from r).elim
 | some u=>exact⟨u,rfl,r⟩
theorem RelO.none_of {o:Option Value}(r:RelO none o):o=none:=by
 cases o with
 | none=>rfl
 | some u=>exact (show False from r).elim
theorem zkG {v:V}{u:Value}(r:RelV v u):PySem.W.handedIn u=true:=by
 cases v with
 | non=>cases (show u=Value.none from r);rfl
 | bl b=>cases (show u=Value.bool b from r);rfl
 | int i=>obtain⟨t,e⟩:=(show ∃ t,u=Value.int i t from r);cases e;rfl
 | str x=>obtain⟨t,e⟩:=(show ∃ t,u=Value.str x t from r);cases e;rfl
 | byt b=>obtain⟨t,e⟩:=(show ∃ t,u=Value.bytes b t from r);cases e;rfl
 | flt b=>obtain⟨t,e⟩:=(show ∃ t,u=Value.float b t from r);cases e;rfl
 | ref a=>cases (show u=Value.ref a from r);rfl
 | ty n=>cases (show u=Value.type n from r);rfl
section
variable {P : Program} {w : World} {H H' : Hp} {h h' : Heap} {a C dx : Addr} {fs fs' : List (Str × V)}
theorem zgB (hok:HOk P w H h) (e:H a=some (.ins C dx fs)):∃ mA,ObjM h a dx C mA∧(∀ f,RelO (fs.lookup f) (mA f))∧PySem.Within mA (fs.map (·.1))∧fs.length≤1000∧H dx=some (.own a):=by
 obtain⟨d,z,ne,ob,mA,n,r,q⟩:=(show zbr P w H h a (.ins C dx fs) from hok a _ e)
 exact⟨mA,⟨ob,n,ne⟩,r,q,z,d⟩
end

structure Cls (K:Fg) (C:Addr):Prop where
 pg:PySem.W.plainGet K C Str.empty=true
 hd:PySem.W.hasDictIn K C=true
 po:PySem.W.plainOver K C=true
 sa:PySem.W.findIn K (.ref C) "__setattr__"=some (some (.builtin "object.__setattr__"))
theorem Cls.get {K:Fg}{C:Addr}(c:Cls K C) (f:Str):PySem.W.plainGet K C f=true:=c.pg
def zbA (K:Fg) (C:Addr) (f:Str):Prop:=PySem.W.findIn K (.ref C) f=some none
theorem zbA.taker {K:Fg}{C:Addr}{f:Str}(n:zbA K C f):PySem.W.takerIn K C f=some none:=by
 unfold PySem.W.takerIn
 rw[show PySem.W.findIn K (.ref C) f=some none from n]
 rfl
structure Meth (K:Fg) (C:Addr) (m:Str) (f:Addr):Prop where
 at_:PySem.W.findIn K (.ref C) m=some (some (.ref f))
 fn:PySem.W.isFn K (.ref f)=true
 kp:PySem.W.keepIn K (.ref f)=true
section
variable {X : Cx} {pins : List (Addr × Obj)} {σ : St} {H : Hp} {s : Shared} {a C dx : Addr} {fs : List (Str × V)} {f : Str} {v : V} {A : Around} {E : Value → Shared → Prop}

theorem zjH {b:Bool}{Q:Value→Shared→Prop}(I:Inv X pins σ H s) (e:H a=some (.ins C dx fs)) (c:Cls X.K C) (n:zbA X.K C f) (l:fs.lookup f=some v)
  (h:∀ u s',Inv X pins σ H s'→RelV v u→Q u s'):wpAny (model X.prog X.w) A (getAttr (.ref a) f b) Q E s:=by
 obtain⟨mA,O,r,_,_,_⟩:=zgB I.hok e
 obtain⟨u,hu,ru⟩:=RelO.some_of (v:=v) (o:=mA f) (by rw[←l];exact r f)
 exact znB I.kIn O (c.get f) c.hd n hu (zkG ru) (h u _ (I.tok _) ru)
theorem zeu {m:Str}{g:Addr}{pl:Sem Bool}{Q:Value × List Value→Shared→Prop}(I:Inv X pins σ H s) (e:H a=some (.ins C dx fs)) (c:Cls X.K C) (k:Meth X.K C m g) (l:fs.lookup m=none)
  (h:Q (.ref g,[.ref a]) s):wpAny (model X.prog X.w) A (getMethod (.ref a) m pl) Q E s:=by
 obtain⟨mA,O,r,_,_,_⟩:=zgB I.hok e
 have hn:mA m=none:=RelO.none_of (by rw[←l];exact r m)
 exact zl1 I.kIn O (c.get m) k.at_ k.fn hn h
theorem zjI {y:V}{u:Value}{Q:Unit→Shared→Prop}(I:Inv X pins σ H s) (e:H a=some (.ins C dx fs)) (c:Cls X.K C) (n:zbA X.K C f) (hl:fs.length<1000) (ry:RelV y u)
  (h:∀ s',Inv X pins σ (upd H a (.ins C dx (putF f y fs))) s'→Q () s'):wpAny (model X.prog X.w) A (setAttr (.ref a) f u) Q E s:=by
 obtain⟨mA,O,r,wi,_,ho⟩:=zgB I.hok e
 have hz:(fs.map (·.1)).length≤sizeLine:=by rw[zlm,sizeLine_eq];omega
 refine znC I.kIn O c.sa c.po n.taker c.hd wi hz λh' O' sb=>h _ ?_
 have hd:∃ o,h'.get? dx=some o:=let ⟨o,_,_,e',_⟩:=O'.ns;⟨o,e'⟩
 refine I.write (x:=a) (e:=dx) (by rw[e];exact True.intro) (.inr ho) (λb q hb z=>(sb.2 b hb).trans z) hd ?_
 refine⟨by rw[zaj O.ne];exact ho,?_,O.ne,O'.obj,_,O'.ns,λg=>?_,λg hg=>?_⟩
 ·have:=zdV f y fs;omega
 ·show RelO ((putF f y fs).lookup g) (if g=f then some u else mA g)
  rw[zaN]
  by_cases q:g=f
  ·rw[if_pos q,if_pos q];exact ry
  ·rw[if_neg q,if_neg q];exact r g
 ·by_cases q:g=f
  ·rw[q];exact (zfe f y fs).1
  ·refine (zfe f y fs).2 g (wi g λz=>hg ?_)
   show (if g=f then some u else mA g)=none
   rw[if_neg q];exact z
theorem Inv.made (I:Inv X pins σ H s):Inv X pins σ (upd (upd H s.heap.objs.size (.own (s.heap.objs.size+1))) (s.heap.objs.size+1) (.ins C s.heap.objs.size []))
  {s with heap:=(s.heap.push PySem.W.emptyDict).push (PySem.W.instObj C s.heap.objs.size)}:=by
 have e1:(s.heap.push PySem.W.emptyDict).get? s.heap.objs.size=some PySem.W.emptyDict:=Heap.get?_push_size s.heap rfl
 have e2:((s.heap.push PySem.W.emptyDict).push (PySem.W.instObj C s.heap.objs.size)).get? (s.heap.objs.size+1)=some (PySem.W.instObj C s.heap.objs.size):=by
  have:=Heap.get?_push_size (s.heap.push PySem.W.emptyDict) (o:=PySem.W.instObj C s.heap.objs.size) rfl
  rwa [Heap.size_push] at this
 have e3:(s.heap.push PySem.W.emptyDict).Ns s.heap.objs.size (λ_=>none):=⟨PySem.W.emptyDict,#[],_,e1,rfl,(λe he=>absurd he (by simp)),λ_=>rfl⟩
 have I1:=I.laid (a:=s.heap.objs.size) (o:=.own (s.heap.objs.size+1)) (h':=s.heap.push PySem.W.emptyDict) (t':=s.toks) (λb u q=>Heap.get?_push_of_some _ q) (Nat.le_refl _) ⟨_,e1⟩
 refine I1.laid (a:=s.heap.objs.size+1) (o:=.ins C s.heap.objs.size []) (t':=s.toks) (λb u q=>Heap.get?_push_of_some _ q) (Nat.le_of_eq (Heap.size_push _ _)) ?_
 have ne:s.heap.objs.size≠s.heap.objs.size+1:=Nat.ne_of_lt (Nat.lt_succ_self _)
 refine⟨by rw[zaj ne,zad],Nat.zero_le _,ne,e2,λ_=>none,(Heap.Ns1.of_empty e3).at λo q=>Heap.get?_push_of_some _ q,λ_=>True.intro,λy hy=>absurd rfl hy⟩
theorem znD {prog:Program}{w:World}{env:Env}{e:Expr}{f:Str}{pos:Pos}{s:Shared}{Q:Value→Shared→Prop}(hb:attributeBase e f env (eval e env)=eval e env)
  (h:wpAny (model prog w) A (eval e env) (λo s₁=>wpAny (model prog w) A (getAttr o f true) Q E s₁) E s):wpAny (model prog w) A (eval (.Attribute e f pos) env) Q E s:=
 Attribute_any_ h (by rw[arm_eval_Attribute,hb])
end

inductive FldI (K:Fg) (f:Str) (x:V) (H:Hp) (Q:VK):Prop
 | mk (a C dx:Addr) (fs:List (Str × V)) (v:V) (e:x=.ref a) (ea:H a=some (.ins C dx fs)) (c:Cls K C) (n:zbA K C f) (l:fs.lookup f=some v) (q:Q v H):FldI K f x H Q
inductive FldS (K:Fg) (f:Str) (y x:V) (H:Hp) (P:Hp→Prop):Prop
 | mk (a C dx:Addr) (fs:List (Str × V)) (e:x=.ref a) (ea:H a=some (.ins C dx fs)) (c:Cls K C) (n:zbA K C f) (l:fs.length<1000) (q:P (upd H a (.ins C dx (putF f y fs)))):FldS K f y x H P
def tFld (K:Fg) (ta:TE) (f:Str):TE:=λσ H Q=>ta σ H λx H1=>FldI K f x H1 Q
def sFld (K:Fg) (ta tv:TE) (f:Str):TS:=λD σ H=>tv σ H λy H1=>ta σ H1 λx H2=>FldS K f y x H2 (D.nx σ)
section
variable {X : Cx} {o e value : Expr} {f : Str} {pos pos' tpos : Pos} {ta tv : TE}
theorem zoW (he:PE X e ta) (hb:attributeBase e f X.env (eval e X.env)=eval e X.env):PE X (.Attribute e f pos) (tFld X.K ta f):=by
 intro pins s σ H Q I h
 refine znD hb (thn (he pins s σ H _ I h) λu s1 ⟨x,H1,I1,rx,a,C,dx,fs,v,ex,ea,c,n,l,q⟩=>?_)
 subst ex
 obtain rfl:u=Value.ref a:=rx
 exact zjH I1 ea c n l λu' s2 I2 ru=>⟨v,H1,I2,ru,q⟩
theorem zbk (ha:PE X o ta) (hv:PE X value tv) (hs:swapsWith value (some (.Attribute o f pos')) pos.line X.env=pure false):PS X (.Assign [.Attribute o f pos'] value pos) (sFld X.K ta tv f):=by
 intro pins s σ H D I h
 refine plainObj_wpAny_Assign_Attribute (thn (hv pins s σ H _ I h) λu s1 ⟨y,H1,I1,ry,q⟩=>thn (ha pins s1 σ H1 _ I1 q) λov s2 ⟨x,H2,I2,rx,a,C,dx,fs,ex,ea,c,n,l,q2⟩=>?_) hs
 subst ex
 obtain rfl:ov=Value.ref a:=rx
 exact zjI I2 ea c n l ry λs3 I3=>⟨σ,_,I3,q2⟩
theorem znE {pl:Sem Bool}{m:Str}{apos:Pos}{args:List Expr}{pins:List (Addr × Obj)}{s:Shared}{σ:St}{H:Hp}{Q:Value→Shared→Prop}{te:TE}(he:PE X e te) (I:Inv X pins σ H s)
  (h:te σ H λx H1=>∃ a C dx fs g,x=.ref a∧H1 a=some (.ins C dx fs)∧Cls X.K C∧Meth X.K C m g∧fs.lookup m=none∧
   ∀ s1,Inv X pins σ H1 s1→wpAny (model X.prog X.w) X.A (callWith pos (.ref g) [.ref a] (backTo pos (starEach args X.env)) (backToKw pos (keywordEach [] X.env))) Q X.xe s1)
  (ht:eval (.Call (.Attribute e m apos) args [] pos) X.env=(do
   let ov ←eval e X.env
   standAt apos.atName
   let (f,first) ←holding [ov] (getMethod ov m pl)
   callWith pos f first (backTo pos (starEach args X.env)) (backToKw pos (keywordEach [] X.env)))) :
  wpAny (model X.prog X.w) X.A (eval (.Call (.Attribute e m apos) args [] pos) X.env) Q X.xe s:=by
 refine PySem.W.methodCall_KW (pl:=pl) (thn (he pins s σ H _ I h) λu s1 ⟨x,H1,I1,rx,a,C,dx,fs,g,ex,ea,c,k,l,q⟩=>?_) ht
 subst ex
 obtain rfl:u=Value.ref a:=rx
 exact zeu I1 ea c k l (q s1 I1)
end

section
variable {X : Cx} {pins : List (Addr × Obj)} {σ : St} {H : Hp} {s : Shared} {A : Around} {E : Value → Shared → Prop} {Q : Value → Shared → Prop} {c : Value} {b : Bool}
inductive TyOf (K:Fg) (H:Hp):V→Value→Prop where
 | non:TyOf K H .non (.type "NoneType")
 | bl (x:Bool):TyOf K H (.bl x) (.type "bool")
 | int (i:Int):TyOf K H (.int i) (.type "int")
 | str (x:Str):TyOf K H (.str x) (.type "str")
 | flt (x:UInt64):TyOf K H (.flt x) (.type "float")
 | lst {a:Addr}{xs:List V}(e:H a=some (.lst xs)):TyOf K H (.ref a) (.type "list")
 | frz {a:Addr}{o:Obj}{xs:List V}(e:H a=some (.frz o (.lst xs))):TyOf K H (.ref a) (.type "list")
 | tup {a:Addr}{xs:List V}(e:H a=some (.tup xs)):TyOf K H (.ref a) (.type "tuple")
 | dK {a:Addr}{kvs:List (Key × V)}(e:H a=some (.dK kvs)):TyOf K H (.ref a) (.type "dict")
 | dT {a:Addr}{kvs:List (List Key × V)}(e:H a=some (.dT kvs)):TyOf K H (.ref a) (.type "dict")
 | ins {a C dx:Addr}{fs:List (Str × V)}(e:H a=some (.ins C dx fs)) (cl:Cls K C) (ha:PySem.W.findIn K (.ref C) "__class__"=some (some (.builtin "object.__class__")))
   (hn:PySem.W.specialIn K (.builtin "object.__class__") "__get__"=some (some (.builtin "getset_descriptor.__get__"))) (htk:PySem.W.takesIn K (.builtin "object.__class__")=some true)
   (hm:PySem.W.mroIn K C (.type "object")=some true):TyOf K H (.ref a) (.ref C)
theorem zkH {x:V}{u t:Value}(I:Inv X pins σ H s) (rx:RelV x u) (ty:TyOf X.K H x t) (e:PySem.W.kitOne X.K t c=some b) (h:∀ tk,Q (.bool b) {s with toks:=tk}) :
  wpAny (model X.prog X.w) A (call (.builtin "isinstance") [u,c]) Q E s:=by
 cases ty with
 | non=>cases (show u=Value.none from rx);exact PySem.W.kia_one PySem.W.kitx_none I.kIn True.intro e (λz=>nomatch z) h
 | bl y=>cases (show u=Value.bool y from rx);exact PySem.W.kia_one PySem.W.kitx_bool I.kIn True.intro e (λz=>nomatch z) h
 | int i=>obtain⟨t,q⟩:=(show ∃ t,u=Value.int i t from rx);cases q;exact PySem.W.kia_one PySem.W.kitx_int I.kIn True.intro e (λz=>nomatch z) h
 | str y=>obtain⟨t,q⟩:=(show ∃ t,u=Value.str y t from rx);cases q;exact PySem.W.kia_one PySem.W.kitx_str I.kIn True.intro e (λz=>nomatch z) h
 | flt y=>obtain⟨t,q⟩:=(show ∃ t,u=Value.float y t from rx);cases q;exact PySem.W.kia_one PySem.W.kitx_float I.kIn True.intro e (λz=>nomatch z) h
 | @lst a xs ea=>
  cases (show u=Value.ref a from rx)
  obtain⟨_,_,n,_,h1⟩:=(show zbr X.prog X.w H s.heap a (.lst xs) from I.hok a _ ea)
  exact PySem.W.kia_one PySem.W.kitx_list I.kIn ⟨_,h1,rfl⟩ e (λz=>nomatch z) h
 | @frz a ob xs ea=>
  cases (show u=Value.ref a from rx)
  obtain⟨_,_,_,n,_,h1⟩:=(show zbr X.prog X.w H s.heap a (.frz ob (.lst xs)) from I.hok a _ ea)
  exact PySem.W.kia_one PySem.W.kitx_list I.kIn ⟨_,h1,rfl⟩ e (λz=>nomatch z) h
 | @tup a xs ea=>
  cases (show u=Value.ref a from rx)
  obtain⟨_,_,_,p⟩:=(show zbr X.prog X.w H s.heap a (.tup xs) from I.hok a _ ea)
  obtain⟨o,h1,h2,_⟩:=p
  exact PySem.W.kia_one PySem.W.kitx_tuple I.kIn ⟨o,h1,h2⟩ e (λz=>nomatch z) h
 | @dK a kvs ea=>
  cases (show u=Value.ref a from rx)
  obtain⟨_,_,vs,_,p⟩:=(show zbr X.prog X.w H s.heap a (.dK kvs) from I.hok a _ ea)
  obtain⟨o,es,ep,h1,h2,_⟩:=p
  exact PySem.W.kia_one PySem.W.kitx_dict I.kIn ⟨o,h1,h2.1⟩ e (λz=>nomatch z) h
 | @dT a kvs ea=>
  cases (show u=Value.ref a from rx)
  obtain⟨_,_,xs,_,o,es,ep,h1,h2,_⟩:=(show zbr X.prog X.w H s.heap a (.dT kvs) from I.hok a _ ea)
  exact PySem.W.kia_one PySem.W.kitx_dict I.kIn ⟨o,h1,h2.1⟩ e (λz=>nomatch z) h
 | @ins a C dx fs ea cl ha hn htk hm=>
  cases (show u=Value.ref a from rx)
  obtain⟨mA,O,_⟩:=zgB I.hok ea
  obtain⟨od,J,_⟩:=O.look
  exact PySem.W.kia_one (PySem.W.kitx_own (cl.get _) cl.hd ha hn htk hm) I.kIn J e (λz=>nomatch z) h
end
end L2

namespace L2
open PySem PySem.Spec PyProof.Rows

structure Room (k:Nat) (A:Around):Prop where
 hd:A.handled=none
 dp:A.depth+3 * k+5<recursionLimit
 un:A.units+16 * k+200<cLine
 gd:A.guards=some []
theorem Room.mono {j k:Nat}{A:Around}(r:Room k A) (h:j≤k):Room j A:=⟨r.hd,by have:=r.dp;omega,by have:=r.un;omega,r.gd⟩
theorem Room.deeper {k:Nat}{A:Around}(r:Room (k+1) A) (env:Env):Room k (A.deeper env):=
 ⟨r.hd,by have:=r.dp;show A.depth+1+3 * k+5<_;omega,by have:=r.un;show A.units+3+16 * k+200<_;omega,r.gd⟩
theorem zjJ {A:Around}{C:Addr}{us:List Value}{kw:List (Str × Value)} : (A.under (.builtin "type.__call__" ⟨.ref C::us,kw⟩)).depth=A.depth+1:=by
 first | rfl | simp[Around.under,Code.weight,Code.isCreation,Code.isGuard,Code.isCaller,Code.frames,Code.isFrame,guardIds]
theorem zjK {A:Around}{C:Addr}{us:List Value}{kw:List (Str × Value)} : (A.under (.builtin "type.__call__" ⟨.ref C::us,kw⟩)).units=A.units+1:=by
 first | rfl | simp[Around.under,Code.cUnits,Code.frames,Code.isFrame]
theorem zil {A:Around}{C:Addr}{us:List Value}{kw:List (Str × Value)}(h:A.guards=some []):(A.under (.builtin "type.__call__" ⟨.ref C::us,kw⟩)).guards=some []:=by
 simp[Around.under,Code.guards,Code.isGuard,guardIds,pushGuards,h]
theorem Room.make {k:Nat}{A:Around}(r:Room (k+1) A) (C:Addr) (us:List Value) (kw:List (Str × Value)):Room k (A.under (.builtin "type.__call__" ⟨.ref C::us,kw⟩)):=
 ⟨r.hd,by have:=r.dp;rw[zjJ];omega,by have:=r.un;rw[zjK];omega,zil r.gd⟩
theorem Room.depth {k:Nat}{A:Around}(r:Room k A):A.depth<recursionLimit:=by have:=r.dp;omega
theorem Room.units {k:Nat}{A:Around}(r:Room k A):A.units+64<cLine:=by have:=r.un;omega
def tNil:TA:=λ_ H Q=>Q [] H
def zdf (ta:TE) (tr:TA):TA:=λσ H Q=>ta σ H λx H1=>tr σ H1 λxs H2=>Q (x::xs) H2
section
variable {X : Cx} {e : Expr} {es : List Expr} {te : TE} {t : TA} {pos : Pos}
theorem zab:PA X [] tNil:=λ_ _ _ _ H Q I h=>Calls.spliced_nil ⟨[],H,I,.nil,h⟩
theorem zbN (ha:PE X e te) (hr:PA X es t) (hs:starEach (e::es) X.env=(false,eval e X.env)::starEach es X.env:=by rfl):PA X (e::es) (zdf te t):=by
 intro pos pins s σ H Q I h
 rw[hs]
 show wpAny _ _ (spliced ((false,eval e X.env)::backTo pos (starEach es X.env))) _ _ s
 refine Calls.spliced_cons (thn (ha pins s σ H _ I h) λu s1 ⟨x,H1,I1,r1,q1⟩=>?_)
 exact thn (hr pos pins s1 σ H1 _ I1 q1) λus s2 ⟨xs,H2,I2,r2,q2⟩=>⟨x::xs,H2,I2,.cons r1 r2,q2⟩
def tTup (t:TA):TE:=λσ H Q=>t σ H λxs H1=>xs.length≤sizeLine∧∀ p,H1 p=none→Q (.ref p) (upd H1 p (.tup xs))
def tLst (t:TA):TE:=λσ H Q=>t σ H λxs H1=>xs.length≤sizeLine∧∀ p,H1 p=none→Q (.ref p) (upd H1 p (.lst xs))
theorem zaZ {x1}(h:PA X es t):PE X (.Tuple es x1 pos) (tTup t):=by
 intro pins s σ H Q I hq
 refine wpAny_Tuple_spliced (thn (h pos pins s σ H _ I hq) λus s1 ⟨xs,H1,I1,r,z,q⟩=>⟨by rw[←r.length];exact z,?_⟩)
 have hf:H1 s1.heap.objs.size=none:=I1.hok.fresh (Nat.le_refl _)
 refine⟨.ref s1.heap.objs.size,upd H1 s1.heap.objs.size (.tup xs),I1.laid (t':=s1.toks) (λb u e=>Heap.get?_push_of_some _ e) (Nat.le_refl _) ?_,rfl,q _ hf⟩
 exact⟨z,us,r,⟨_,Heap.get?_push_size _ rfl,rfl,_,rfl⟩⟩
theorem za3 (h:PA X es t):PE X (.List es pos) (tLst t):=by
 intro pins s σ H Q I hq
 refine wpAny_List_spliced (thn (h pos pins s σ H _ I hq) λus s1 ⟨xs,H1,I1,r,z,q⟩=>⟨by rw[←r.length];exact z,?_⟩)
 have hf:H1 s1.heap.objs.size=none:=I1.hok.fresh (Nat.le_refl _)
 refine⟨.ref s1.heap.objs.size,upd H1 s1.heap.objs.size (.lst xs),I1.laid (t':=s1.toks) (λb u e=>Heap.get?_push_of_some _ e) (Nat.le_refl _) ?_,rfl,q _ hf⟩
 exact⟨z,us,0,r,Heap.get?_push_size _ rfl⟩
end

abbrev Sp:=List V→Hp→VK→XK→Prop
abbrev CXT:=List Env→Hp→Shared→XK→Value→Shared→Prop
structure Env0 (P:Program) (w:World) (K:Fg) (mg:Str→Option Value) (base:Heap) (A:Around) (outer:List Env) (s:Shared) (H:Hp):Prop where
 frames:A.frames=some outer
 mod:Mod K mg base
 bs:∀ b o,base.get? b=some o→s.heap.get? b=some o∧H b=none
 bsz:base.objs.size≤s.heap.objs.size
 funs:s.heap.FunFrames base outer
 frf:∀ b∈frs outer,H b=none
 hok:HOk P w H s.heap
 bare:AllBare s.gens
def CE (outer:List Env) (P:Program) (w:World) (H:Hp) (s:Shared) (Q:VK) (u:Value) (s':Shared):Prop:=
 ∃ v H',s'.os=s.os∧AllBare s'.gens∧Un (frs outer) [] H H' s.heap s'.heap∧HOk P w H' s'.heap∧RelV v u∧Q v H'
def CR (CX:CXT) (outer:List Env) (P:Program) (w:World) (H:Hp) (s:Shared) (Q:VK) (E:XK) (r:Result) (s':Shared):Prop:=
 match r with
 | .ok (.ret u)=>CE outer P w H s Q u s'
 | .ok _=>False
 | .error e=>CX outer H s E e s'
structure FnOk (P:Program) (w:World) (K:Fg) (mg:Str→Option Value) (base:Heap) (CX:CXT) (k:Nat) (f:Addr) (fd:FuncData) (ps:List Str) (sp:Sp):Prop where
 len:∀ vs H Q E,sp vs H Q E→vs.length=ps.length
 run:∀ (A:Around) (outer:List Env) (s:Shared) (H:Hp) (args:Args) (us:List Value) (vs:List V) (Q:VK) (E:XK),Room k A→Env0 P w K mg base A outer s H→BindsTo s fd args (ps.zip us)→Vals vs us→sp vs H Q E→
  codeAny (model P w) A (.call (.ref f) args) (CR CX outer P w H s Q E) s
theorem FnOk.mono {P:Program}{w:World}{K:Fg}{mg:Str→Option Value}{base:Heap}{CX:CXT}{j k:Nat}{f:Addr}{fd:FuncData}{ps:List Str}{sp:Sp}(F:FnOk P w K mg base CX j f fd ps sp) (h:j≤k) :
  FnOk P w K mg base CX k f fd ps sp:=⟨F.len,λA outer s H args us vs Q E hr=>F.run A outer s H args us vs Q E (hr.mono h)⟩
theorem Env0.make {P:Program}{w:World}{K:Fg}{mg:Str→Option Value}{base:Heap}{A:Around}{outer:List Env}{s:Shared}{H:Hp}(e:Env0 P w K mg base A outer s H) (C:Addr) (us:List Value) (kw:List (Str × Value)) :
  Env0 P w K mg base (A.under (.builtin "type.__call__" ⟨.ref C::us,kw⟩)) outer s H:=⟨by first | exact e.frames | (simpa [Around.under,Code.envs,Code.isFrame,pushEnvs] using e.frames),e.mod,e.bs,e.bsz,e.funs,e.frf,e.hok,e.bare⟩
section
variable {X : Cx} {pins : List (Addr × Obj)} {σ : St} {H : Hp} {s s' : Shared}
theorem Inv.env0 (I:Inv X pins σ H s):Env0 X.prog X.w X.K X.mg X.base X.A X.stack s H:=
 ⟨I.ok.frames,I.ok.mod,I.bs,Nat.le_trans I.ok.bsz I.sz,I.stack,I.stkFree,I.hok,I.bare⟩
theorem Inv.after {Q:VK}{u:Value}(I:Inv X pins σ H s) (h:CE X.stack X.prog X.w H s Q u s'):EP X pins σ Q u s':=by
 obtain⟨v,H',os,bare,un,hok,r,q⟩:=h
 obtain⟨hh,g,d,t,os'⟩:=s'
 obtain rfl:os'=s.os:=os
 exact⟨v,H',I.call (h':=hh) (g':=g) (d':=d) (t':=t) (ch:=[]) un hok bare (λb z=>absurd z (by simp)),r,q⟩
end

def znF (sp:Sp) (dvs:List V) (E:XK) (t:TA):TE:=λσ H Q=>t σ H λvs H1=>sp (vs++dvs) H1 Q E
inductive MethI (C:Addr) (m:Str) (x:V) (H:Hp) (P:Prop):Prop
 | mk (a dx:Addr) (fs:List (Str × V)) (e:x=.ref a) (ea:H a=some (.ins C dx fs)) (l:fs.lookup m=none) (q:P):MethI C m x H P
def zkI (C:Addr) (m:Str) (sp:Sp) (dvs:List V) (E:XK) (ta:TE) (t:TA):TE:=λσ H Q=>ta σ H λx H1=>MethI C m x H1 (t σ H1 λvs H2=>sp (x::(vs++dvs)) H2 Q E)
def zhb (C:Addr) (sp:Sp) (dvs:List V) (E:XK) (t:TA):TE:=λσ H Q=>t σ H λvs H1=>∀ x dx,H1 x=none→H1 dx=none→dx≠x→
 sp (.ref x::(vs++dvs)) (upd (upd H1 dx (.own x)) x (.ins C dx [])) (λv H2=>v=.non∧Q (.ref x) H2) E
def zd6 (K:Fg) (fd:FuncData) (ps:List Str) (ds:List Value):Prop:=
 ∀ (s:Shared) (us:List Value),K.In s.heap→(us++ds).length=ps.length→BindsTo s fd ⟨us,[]⟩ (ps.zip (us++ds))
theorem zd6.all {K:Fg}{fd:FuncData}{ps:List Str}(h:∀ us:List Value,us.length=ps.length→bindArgs fd ⟨us,[]⟩=pure (ps.zip us)):zd6 K fd ps []:=λs us _ hl=>by
 rw[List.append_nil] at hl ⊢
 exact .of_eq (h us hl)
def zda (CX:CXT) (X:Cx) (E:XK):Prop:=∀ (pins:List (Addr × Obj)) (σ:St) (H:Hp) (s:Shared) (e:Value) (s':Shared),Inv X pins σ H s→CX X.stack H s E e s'→X.xe e s'
section
variable {X : Cx} {CX : CXT} {k : Nat} {f C : Addr} {fd : FuncData} {ps : List Str} {sp : Sp} {dvs : List V} {ds : List Value} {E : XK} {x m : Str} {p pos apos : Pos} {e o : Expr} {es : List Expr} {ta : TE} {t : TA}

theorem zkJ {pins:List (Addr × Obj)}{σ:St}{H:Hp}{s:Shared}{Q:VK}{us:List Value}{vs:List V}(F:FnOk X.prog X.w X.K X.mg X.base CX k f fd ps sp) (hr:Room k X.A) (hb:zd6 X.K fd ps ds) (hd:Vals dvs ds) (hx:zda CX X E)
  (I:Inv X pins σ H s) (r:Vals vs us) (h:sp (vs++dvs) H Q E):wpAny (model X.prog X.w) X.A (call (.ref f) us) (EP X pins σ Q) X.xe s:=by
 have r2:Vals (vs++dvs) (us++ds):=r.append hd
 have hl:(us++ds).length=ps.length:=by rw[←r2.length];exact F.len _ _ _ _ h
 refine wpAny_call (codeAny_mono (F.run X.A X.stack s H ⟨us,[]⟩ (us++ds) (vs++dvs) Q E hr I.env0 (hb s us I.kIn hl) r2 h) λr s' hq=>?_)
 cases r with
 | error e=>exact hx pins σ H s e s' I hq
 | ok fl=>
  cases fl with
  | ret u=>exact I.after hq
  | next=>exact False.elim hq
  | brk=>exact False.elim hq
  | cont=>exact False.elim hq
theorem znG (F:FnOk X.prog X.w X.K X.mg X.base CX k f fd ps sp) (hr:Room k X.A) (hg:Gl X x) (hm:X.mg x=some (.ref f)) (hk:PySem.W.keepIn X.K (.ref f)=true) (hb:zd6 X.K fd ps ds) (hd:Vals dvs ds) (hx:zda CX X E)
  (ha:PA X (e::es) t) (hdb:(x == ("__debug__" : Str))=false:=by decide) (he:starEach (e::es) X.env=(false,eval e X.env)::starEach es X.env:=by rfl) (hpl:(backTo pos (starEach es X.env)).any (·.1)=false:=by rfl) :
  PE X (.Call (.Name x p) (e::es) [] pos) (znF sp dvs E t):=by
 intro pins s σ H Q I h
 refine wpAny_Call_Name_kw (zdU I hg hm ?_ hdb)
 refine PySem.W.callWith_K (h₀:=X.base) I.ok.mod.kin hk (thn (ha pos pins s σ H _ I h) λus s1 ⟨vs,H1,I1,r,q⟩=>⟨I1.kIn,?_⟩) he hpl
 exact zkJ F hr hb hd hx I1 r q
theorem znH {pl:Sem Bool}(he:PE X o ta) (c:Cls X.K C) (hm:Meth X.K C m f) (F:FnOk X.prog X.w X.K X.mg X.base CX k f fd ps sp) (hr:Room k X.A) (hb:zd6 X.K fd ps ds) (hd:Vals dvs ds) (hx:zda CX X E) (ha:PA X (e::es) t)
  (hst:starEach (e::es) X.env=(false,eval e X.env)::starEach es X.env:=by rfl) (hpl:(backTo pos (starEach es X.env)).any (·.1)=false:=by rfl)
  (ht:eval (.Call (.Attribute o m apos) (e::es) [] pos) X.env=(do
   let ov ←eval o X.env
   standAt apos.atName
   let (f,first) ←holding [ov] (getMethod ov m pl)
   callWith pos f first (backTo pos (starEach (e::es) X.env)) (backToKw pos (keywordEach [] X.env))):=by rfl) :
  PE X (.Call (.Attribute o m apos) (e::es) [] pos) (zkI C m sp dvs E ta t):=by
 intro pins s σ H Q I h
 refine PySem.W.methodCall_KW (pl:=pl) (thn (he pins s σ H _ I h) λu s1 ⟨x,H1,I1,rx,a,dx,fs,ex,ea,l,q⟩=>?_) ht
 subst ex
 obtain rfl:u=Value.ref a:=rx
 refine zeu I1 ea c hm l ?_
 refine PySem.W.callWith_K (first:=[.ref a]) (h₀:=X.base) I.ok.mod.kin hm.kp (thn (ha pos pins s1 σ H1 _ I1 q) λus s2 ⟨vs,H2,I2,r,q2⟩=>⟨I2.kIn,?_⟩) hst hpl
 exact zkJ (us:=.ref a::us) (vs:=.ref a::vs) F hr hb hd hx I2 (.cons rfl r) q2
theorem zl2 {pl:Sem Bool}(he:PE X o ta) (c:Cls X.K C) (hm:Meth X.K C m f) (F:FnOk X.prog X.w X.K X.mg X.base CX k f fd ps sp) (hr:Room k X.A) (hb:zd6 X.K fd ps ds) (hd:Vals dvs ds) (hx:zda CX X E)
  (ht:eval (.Call (.Attribute o m apos) [] [] pos) X.env=(do
   let ov ←eval o X.env
   standAt apos.atName
   let (f,first) ←holding [ov] (getMethod ov m pl)
   callWith pos f first (backTo pos (starEach [] X.env)) (backToKw pos (keywordEach [] X.env))):=by rfl) :
  PE X (.Call (.Attribute o m apos) [] [] pos) (zkI C m sp dvs E ta tNil):=by
 intro pins s σ H Q I h
 refine PySem.W.methodCall_KW (pl:=pl) (thn (he pins s σ H _ I h) λu s1 ⟨x,H1,I1,rx,a,dx,fs,ex,ea,l,q⟩=>?_) ht
 subst ex
 obtain rfl:u=Value.ref a:=rx
 refine zeu I1 ea c hm l ?_
 exact PySem.W.callWith_K0 (first:=[.ref a]) I1.kIn hm.kp (zkJ (us:=[.ref a]) (vs:=[.ref a]) F hr hb hd hx I1 (.cons rfl .nil) q)
structure Mk (K:Fg) (C f:Addr):Prop where
 makes:PySem.W.makesIn K C=true
 init:PySem.W.findIn K (.ref C) "__init__"=some (some (.ref f))
 fn:PySem.W.isFn K (.ref f)=true
 kp:PySem.W.keepIn K (.ref C)=true
theorem zi7 {pins:List (Addr × Obj)}{σ:St}{H:Hp}{s:Shared}{Q:VK}{us:List Value}{vs:List V}(M:Mk X.K C f) (F:FnOk X.prog X.w X.K X.mg X.base CX k f fd ps sp) (hr:Room (k+1) X.A) (hb:zd6 X.K fd ps ds) (hd:Vals dvs ds)
  (hx:zda CX X E) (I:Inv X pins σ H s) (r:Vals vs us)
  (h:∀ x dx,H x=none→H dx=none→dx≠x→sp (.ref x::(vs++dvs)) (upd (upd H dx (.own x)) x (.ins C dx [])) (λv H2=>v=.non∧Q (.ref x) H2) E) :
  wpAny (model X.prog X.w) X.A (call (.ref C) us) (EP X pins σ Q) X.xe s:=by
 have hq:=h (s.heap.objs.size+1) s.heap.objs.size (I.hok.fresh (Nat.le_succ _)) (I.hok.fresh (Nat.le_refl _)) (Nat.ne_of_lt (Nat.lt_succ_self _))
 have I2:=Inv.made (C:=C) I
 have r2:Vals (V.ref (s.heap.objs.size+1)::(vs++dvs)) (Value.ref (s.heap.objs.size+1)::(us++ds)):=.cons rfl (r.append hd)
 have hl:(Value.ref (s.heap.objs.size+1)::us++ds).length=ps.length:=by
  have e:=r2.length
  rw[F.len _ _ _ _ hq] at e
  exact e.symm
 refine wpAny_call (zi6 (f:=f) I.kIn M.makes M.init (beq_iff_eq.mp M.fn) (codeAny_mono (F.run _ X.stack _ _ ⟨Value.ref (s.heap.objs.size+1)::us,[]⟩ (Value.ref (s.heap.objs.size+1)::(us++ds)) _ _ E (hr.make C us [])
  (I2.env0.make C us []) (hb _ (Value.ref (s.heap.objs.size+1)::us) I2.kIn hl) r2 hq) λr s' hq'=>?_))
 cases r with
 | error e=>exact hx pins σ _ _ e s' I2 hq'
 | ok fl=>
  cases fl with
  | ret u=>
   obtain⟨v,H',I3,rv,ev,q3⟩:=I2.after hq'
   subst ev
   exact⟨rv,⟨V.ref (s.heap.objs.size+1),H',I3,rfl,q3⟩⟩
  | next=>exact False.elim hq'
  | brk=>exact False.elim hq'
  | cont=>exact False.elim hq'
theorem zkK (M:Mk X.K C f) (F:FnOk X.prog X.w X.K X.mg X.base CX k f fd ps sp) (hr:Room (k+1) X.A) (hg:Gl X x) (hm:X.mg x=some (.ref C)) (hb:zd6 X.K fd ps ds) (hd:Vals dvs ds) (hx:zda CX X E)
  (ha:PA X (e::es) t) (hdb:(x == ("__debug__" : Str))=false:=by decide) (he:starEach (e::es) X.env=(false,eval e X.env)::starEach es X.env:=by rfl) (hpl:(backTo pos (starEach es X.env)).any (·.1)=false:=by rfl) :
  PE X (.Call (.Name x p) (e::es) [] pos) (zhb C sp dvs E t):=by
 intro pins s σ H Q I h
 refine wpAny_Call_Name_kw (zdU I hg hm ?_ hdb)
 refine PySem.W.callWith_K (h₀:=X.base) I.ok.mod.kin M.kp (thn (ha pos pins s σ H _ I h) λus s1 ⟨vs,H1,I1,r,q⟩=>⟨I1.kIn,?_⟩) he hpl
 exact zi7 M F hr hb hd hx I1 r q
theorem zl3 (M:Mk X.K C f) (F:FnOk X.prog X.w X.K X.mg X.base CX k f fd ps sp) (hr:Room (k+1) X.A) (hg:Gl X x) (hm:X.mg x=some (.ref C)) (hb:zd6 X.K fd ps ds) (hd:Vals dvs ds) (hx:zda CX X E)
  (hdb:(x == ("__debug__" : Str))=false:=by decide):PE X (.Call (.Name x p) [] [] pos) (zhb C sp dvs E tNil):=by
 intro pins s σ H Q I h
 refine wpAny_Call_Name_kw (zdU I hg hm ?_ hdb)
 exact PySem.W.callWith_K0 I.kIn M.kp (zi7 (us:=[]) M F hr hb hd hx I .nil h)
end

section
variable {X : Cx} {CX : CXT} {k : Nat} {f C : Addr} {fd : FuncData} {ps ks : List Str} {sp : Sp} {E : XK} {x m : Str} {p pos apos kpos : Pos} {e o : Expr} {es : List Expr} {kws : List Keyword} {te ta : TE} {t tk : TA} {nm : Option Str}
variable {g : List Value → List Value → List Value} {gV : List V → List V → List V}
end

structure FSc (N P:List Str) (sc:Scope):Prop where
 kind:sc.kind=.function
 co:sc.isCoroutine=false
 gen:sc.isGenerator=false
 nd:N.Nodup
 pre:N.take P.length=P
 par:∀ x∈P,sc.names.lookup x=some .local∨sc.names.lookup x=some .cell
 nofree:∀ y∈sc.names,y.2≠.free
theorem zhc {kindOf:Str→Option NameKind}{x:Str} : ∀ {binds:List (Str × Value)}{m:Str→Option Value},(∀ v,(x,v)∉binds)→bindL kindOf binds m x=m x
 | [],_,_=>rfl
 | (n,v)::r,m,h=>by
  unfold bindL
  rw[zhc λw hw=>h w (List.mem_cons_of_mem _ hw)]
  split
  ·have:x≠n:=by rintro rfl;exact h v List.mem_cons_self
   simp[this]
  ·rfl
theorem zhd {kindOf:Str→Option NameKind}{x:Str} : ∀ {binds:List (Str × Value)}{m:Str→Option Value},(∀ v,(x,v)∉binds)→bindC kindOf binds m x=m x
 | [],_,_=>rfl
 | (n,v)::r,m,h=>by
  unfold bindC
  rw[zhd λw hw=>h w (List.mem_cons_of_mem _ hw)]
  split
  ·rfl
  ·have:x≠n:=by rintro rfl;exact h v List.mem_cons_self
   simp[this]
theorem zhe {kindOf:Str→Option NameKind}{x:Str}{v:Value} : ∀ {P:List Str}{vs:List Value}{i:Nat}{m:Str→Option Value},P.Nodup→P[i]?=some x→vs[i]?=some v→kindOf x=some .local→
  bindL kindOf (P.zip vs) m x=some v
 | [],_,_,_,_,h,_,_=>by simp at h
 | _::_,[],_,_,_,_,h,_=>by simp at h
 | p::P,w::vs,0,m,nd,h1,h2,hk=>by
  simp at h1 h2;subst h1;subst h2
  show bindL kindOf ((p,w)::P.zip vs) m p=_
  unfold bindL
  rw[zhc λv hv=>(List.nodup_cons.mp nd).1 (List.of_mem_zip hv).1,if_pos hk]
  simp
 | p::P,w::vs,i+1,m,nd,h1,h2,hk=>by
  show bindL kindOf ((p,w)::P.zip vs) m x=_
  unfold bindL
  exact zhe (i:=i) (List.nodup_cons.mp nd).2 (by simpa using h1) (by simpa using h2) hk
theorem zhf {kindOf:Str→Option NameKind}{x:Str}{v:Value} : ∀ {P:List Str}{vs:List Value}{i:Nat}{m:Str→Option Value},P.Nodup→P[i]?=some x→vs[i]?=some v→kindOf x≠some .local→
  bindC kindOf (P.zip vs) m x=some v
 | [],_,_,_,_,h,_,_=>by simp at h
 | _::_,[],_,_,_,_,h,_=>by simp at h
 | p::P,w::vs,0,m,nd,h1,h2,hk=>by
  simp at h1 h2;subst h1;subst h2
  show bindC kindOf ((p,w)::P.zip vs) m p=_
  unfold bindC
  rw[zhd λv hv=>(List.nodup_cons.mp nd).1 (List.of_mem_zip hv).1,if_neg hk]
  simp
 | p::P,w::vs,i+1,m,nd,h1,h2,hk=>by
  show bindC kindOf ((p,w)::P.zip vs) m x=_
  unfold bindC
  exact zhf (i:=i) (List.nodup_cons.mp nd).2 (by simpa using h1) (by simpa using h2) hk
def start (N:List Str) (vs:List V):St:=vs.map some++List.replicate (N.length - vs.length) none
def cxOf (CX:CXT) (P:Program) (w:World) (K:Fg) (mg:Str→Option Value) (base:Heap) (N:List Str) (qual:Str) (scope:Scope) (f:Addr) (cd:Value) (A:Around) (outer:List Env) (s:Shared) (H:Hp) (E:XK):Cx where
 prog:=P
 w:=w
 K:=K
 mg:=mg
 base:=base
 A:=A.deeper (envOfC qual scope s.heap.objs.size f cd)
 N:=N
 s₀:=s
 H₀:=H
 env:=envOfC qual scope s.heap.objs.size f cd
 outer:=outer
 stack:=envOfC qual scope s.heap.objs.size f cd::outer
 ex:=[]
 calm:=true
 fn:=λ_=>true
 pn:=[]
 xe:=λe s'=>wpAny (model P w) (A.deeper (envOfC qual scope s.heap.objs.size f cd)) (leaving (envOfC qual scope s.heap.objs.size f cd) e) (λ_ s''=>CX outer H s E e s'') (λe' s''=>CX outer H s E e' s'') s'
theorem zi8 {sc:Scope}{n:Nat}{x:Str}(h:sc.names.lookup x=some .cell):∃ c,(cellsFrom n sc.names []).lookup x=some c:=by
 have q:=PySem.W.cellsFrom_some sc.names n [] (.inl h)
 exact Option.isSome_iff_exists.mp q
theorem zkL {CX:CXT}{P:Program}{w:World}{K:Fg}{mg:Str→Option Value}{base:Heap}{N ps:List Str}{qual:Str}{scope:Scope}{f:Addr}{cd:Value}{A:Around}{outer:List Env}{s s1:Shared}{H:Hp}{E:XK}{us:List Value}{vs:List V}
  (S:FSc N ps scope) (hd:A.handled=none) (e0:Env0 P w K mg base A outer s H) (hl:vs.length=ps.length) (r:Vals vs us)
  (x:InCallC s s.heap.objs.size (bindL (envOfC qual scope s.heap.objs.size f cd).kindOf (ps.zip us) λ_=>none) (cellsFrom (s.heap.objs.size+1) scope.names []) (bindC (envOfC qual scope s.heap.objs.size f cd).kindOf (ps.zip us) λ_=>none) s1) :
  Inv (cxOf CX P w K mg base N qual scope f cd A outer s H E) [] (start N vs) H s1:=by
 have hpl:ps.length≤N.length:=by have:=congrArg List.length S.pre;rw[List.length_take] at this;omega
 obtain⟨h1,tk,rfl,hk⟩:=x.done
 have noA:∀ b:Addr,b∉(cxOf CX P w K mg base N qual scope f cd A outer s H E).ex:=λb z=>absurd (show b∈([]:List Addr) from z) (by simp)
 refine⟨⟨e0.mod,S.kind,rfl,rfl,Nat.le_refl _,λy z c h1 h2=>?_,λy hy=>?_,λy c _ h=>?_,λ_=>hd,Around.frames_deeper e0.frames,.inr ⟨rfl,rfl⟩,λb z=>absurd z (noA b),e0.bs,e0.bsz,λb _ _=>noA b,λb z=>absurd z (noA b),e0.funs,e0.frf⟩,
  rfl,e0.bare,Un.kept hk,⟨_,x.toInCall.ns,λi y v h1 h2 h3=>?_⟩,λy c h=>⟨_,x.cell y c h⟩,e0.hok.fresh (Nat.le_refl _),λy c h=>?_,λp hp=>absurd (show p∈([]:List (Addr × Obj)) from hp) (by simp),e0.hok.kept hk,?_⟩
 ·exact name_of_addr x.apart (PySem.mem_of_lookup h1) (PySem.mem_of_lookup h2)
 ·have hy:scope.names.lookup y=some .cell∨scope.names.lookup y=some .free:=hy
  rcases hy with hy | hy
  ·exact zi8 hy
  ·exact absurd rfl (S.nofree _ (PySem.mem_of_lookup hy))
 ·exact Nat.le_of_lt (x.above y c (PySem.mem_of_lookup h))
 ·have hi:i<vs.length:=by
   unfold start at h2
   by_cases hi:i<vs.length
   ·exact hi
   ·rw[List.getElem?_append_right (by simpa using hi)] at h2
    rw[List.getElem?_replicate] at h2
    split at h2 <;> cases h2
  have ha:vs[i]?=some v:=by
   unfold start at h2
   rw[List.getElem?_append_left (by simpa using hi),zgm] at h2
   cases e:vs[i]? with
   | none=>rw[e] at h2;cases h2
   | some a=>rw[e] at h2;cases h2;rfl
  obtain⟨u,hu,rv⟩:=r.get ha
  have hp:ps[i]?=some y:=by
   rw[←S.pre,List.getElem?_take_of_lt (by omega)];exact h1
  have ndP:ps.Nodup:=by rw[←S.pre];exact S.nd.sublist (List.take_sublist _ _)
  refine⟨u,rv,?_⟩
  rcases S.par y (zmg hp) with k | k
  ·exact .inl ⟨k,zhe ndP hp hu k⟩
  ·obtain⟨c,e⟩:=zi8 (n:=s.heap.objs.size+1) k
   refine .inr ⟨.inl k,c,e,?_⟩
   have q:=x.cell y c e
   rw[zhf ndP hp hu (by show scope.names.lookup y≠_;rw[k];decide)] at q
   exact q
 ·exact e0.hok.fresh (Nat.le_of_lt (x.above y c (PySem.mem_of_lookup h)))
 ·unfold start
  show _=N.length
  rw[List.length_append,zlm,List.length_replicate]
  omega
theorem zoX {CX:CXT}{P:Program}{w:World}{K:Fg}{mg:Str→Option Value}{base:Heap}{k:Nat}{f:Addr}{name qual:Str}{params:Arguments}{body:List Stmt}{scope:Scope}{dV kV doc pm cdv ct oc:Value}{an od:Option Addr}
  {osl:Array (Option Value)}{N ps:List Str}{sp:Sp}(lk:K.lookup f=some ⟨oc,od,.func (PySem.W.fnOf name qual params body scope dV kV doc pm an cdv ct),osl⟩) (hcd:PySem.W.codeIn K cdv qual=true) (S:FSc N ps scope)
  (len:∀ vs H Q E,sp vs H Q E→vs.length=ps.length)
  (hbody:∀ (A:Around) (outer:List Env) (s:Shared) (H:Hp) (vs:List V) (Q:VK) (E:XK),Room k (A.deeper (envOfC qual scope s.heap.objs.size f cdv))→sp vs H Q E→
   ∃ t,PSs (cxOf CX P w K mg base N qual scope f cdv A outer s H E) body t∧t {nx:=λ_ H'=>Q .non H',rt:=Q} (start N vs) H) :
  FnOk P w K mg base CX (k+1) f (PySem.W.fnOf name qual params body scope dV kV doc pm an cdv ct) ps sp:=by
 refine⟨len,λA outer s H args us vs Q E hr e0 hb r hsp=>?_⟩
 have hl:=len _ _ _ _ hsp
 have KX:K.In s.heap:=e0.mod.kin.keeps λb o e=>(e0.bs b o e).1
 have lim:s.heap.NoLimit:=e0.mod.nolimit.keeps λb o e=>(e0.bs b o e).1
 have hkind:∀ y∈ps.zip us,scope.names.lookup y.1=some .local∨(scope.names.lookup y.1=some .cell∧((cellsFrom (s.heap.objs.size+1) scope.names []).lookup y.1).isSome=true):=λ⟨n,v⟩ hy=>by
  rcases S.par n (List.of_mem_zip hy).1 with q | q
  ·exact .inl q
  ·exact .inr ⟨q,PySem.W.cellsFrom_some _ _ _ (.inl q)⟩
 refine codeAny_call_function hr.depth (KX _ _ lk) rfl S.co S.gen rfl (PySem.W.codeRec_of KX hcd) (hb _ _ _ _ ?_)
 refine wpAny_newFunctionEnv_cells S.kind hkind λenv he s1 x=>?_
 subst he
 refine⟨lim.keeps x.toInCall.keep,codeAny_func ?_⟩
 obtain⟨t,ht,hq⟩:=hbody A outer s H vs Q E (hr.deeper _) hsp
 have I:Inv (cxOf CX P w K mg base N qual scope f cdv A outer s H E) [] (start N vs) H s1:=zkL S hr.hd e0 hl r x
 refine wpAny_mono (ht [] s1 (start N vs) H _ I hq) (λfl s' hs=>?_) λe s' hs=>hs
 have fin:∀ {σ':St}{H':Hp}{v:V}{u:Value},Inv (cxOf CX P w K mg base N qual scope f cdv A outer s H E) [] σ' H' s'→RelV v u→Q v H'→CE outer P w H s Q u s':=
  λ{σ' H' v u} J rv q=>⟨v,H',J.os,J.bare,J.base,J.hok,rv,q⟩
 cases fl with
 | ret u=>
  obtain⟨v,σ',H',J,rv,q⟩:=hs
  exact fin J rv q
 | next=>
  obtain⟨σ',H',J,q⟩:=hs
  exact fin (v:=V.non) (u:=Value.none) J rfl q
 | brk=>
  obtain⟨_,_,_,q⟩:=hs
  exact False.elim q
 | cont=>
  obtain⟨_,_,_,q⟩:=hs
  exact False.elim q
end L2

namespace L2
open PySem PySem.Spec PyProof.Rows
section
variable {X : Cx} {x : Str} {p pos : Pos} {e : Expr} {es : List Expr} {t : TA} {id T : String} {r : List V → Hp → VK → Prop}

def tCB (r:List V→Hp→VK→Prop) (t:TA):TE:=λσ H Q=>t σ H λvs H1=>r vs H1 Q
theorem zaH (hc:zcu X (.builtin id) r) (hg:Gl X x) (hm:X.mg x=none) (hv:bootBuiltins x=some (.builtin id)) (ha:PA X (e::es) t) (hn:x≠ "__name__":=by decide) (hdb:(x == ("__debug__" : Str))=false:=by decide)
  (he:starEach (e::es) X.env=(false,eval e X.env)::starEach es X.env:=by rfl) (hpl:(backTo pos (starEach es X.env)).any (·.1)=false:=by rfl):PE X (.Call (.Name x p) (e::es) [] pos) (tCB r t):=by
 intro pins s σ H Q I h
 refine wpAny_Call_Name_kw (zfc I hg hm hv ?_ hn hdb)
 exact PyProof.Rows.callWith_builtin1 (thn (ha pos pins s σ H _ I h) λus s1 ⟨vs,H1,I1,r1,q1⟩=>hc pins s1 σ H1 vs us Q I1 r1 q1) he hpl
theorem zcl (hc:zcu X (.type T) r) (hg:Gl X x) (hm:X.mg x=none) (hv:bootBuiltins x=some (.type T)) (ha:PA X (e::es) t) (hn:x≠ "__name__":=by decide) (hdb:(x == ("__debug__" : Str))=false:=by decide)
  (he:starEach (e::es) X.env=(false,eval e X.env)::starEach es X.env:=by rfl) (hpl:(backTo pos (starEach es X.env)).any (·.1)=false:=by rfl):PE X (.Call (.Name x p) (e::es) [] pos) (tCB r t):=by
 intro pins s σ H Q I h
 refine wpAny_Call_Name_kw (zfc I hg hm hv ?_ hn hdb)
 exact PyProof.Rows.callWith_type1 (thn (ha pos pins s σ H _ I h) λus s1 ⟨vs,H1,I1,r1,q1⟩=>hc pins s1 σ H1 vs us Q I1 r1 q1) he hpl
end
end L2

namespace HT
open PySem PyProof.Rows

section
open PySem.SeqAt
open PySem.AutoSeq1 (wpAny_loadPart')
open PySem.MeetsSeq PySem.MeetsSeq2 PySem.MeetsSeq3

end

section
variable {prog : Program} {w : World} {A : Around} {E : Value → Shared → Prop} {s : Shared}

theorem cat_tup {t b:Addr}{vs ws:List Value}{Q:Value→Shared→Prop}(ht:IsTup s.heap t vs.toArray) (hb:IsTup s.heap b ws.toArray) (hv:vs≠[])
  (h1:ws=[]→Q (.ref t) s) (h2:ws≠[]→Q (.ref s.heap.objs.size) {s with heap:=s.heap.push {cls:=.type "tuple",data:=.seq (vs++ws).toArray}})
  (hsz:vs.length+ws.length≤sizeLine):wpAny (model prog w) A (binaryOp .Add (.ref t) (.ref b)) Q E s:=by
 obtain⟨⟨cls,dd,data,sl⟩,ho,hc,n,hd⟩:=id ht
 obtain⟨⟨cls2,dd2,data2,sl2⟩,ho2,hc2,n2,hd2⟩:=id hb
 simp only at hc hd hc2 hd2
 subst hc hd hc2 hd2
 have e:vs.toArray++ws.toArray=(vs++ws).toArray:=by simp
 by_cases hw:ws=[]
 ·exact concat_meets ⟨_,ho,rfl⟩ ⟨_,ho2,rfl⟩ noFill_tuple_add seq_tuple_add PySem.F.slot_tuple_add PySem.F.entry_tuple_add (PySem.F.args_tuple_add_2 _ _)
   (tuple_addW1 t b vs.toArray ws.toArray n n2 dd dd2 sl sl2 (by simpa using hv) (by simp[hw])) ⟨ho,ho2,h1 hw⟩
 ·refine concat_meets ⟨_,ho,rfl⟩ ⟨_,ho2,rfl⟩ noFill_tuple_add seq_tuple_add PySem.F.slot_tuple_add PySem.F.entry_tuple_add (PySem.F.args_tuple_add_2 _ _)
   (tuple_addW2 t b vs.toArray ws.toArray n n2 dd dd2 sl sl2 (by simpa using hv) (by simpa using hw) (by rw[zst,zst];exact hsz)) ⟨ho,ho2,?_⟩
  rw[e]
  exact h2 hw
def sIx (n d:Nat):Option Int→Nat
 | none=>d
 | some v=>if v<0 then (v+(n:Int)).toNat else min v.toNat n
theorem sIx_none (n d:Nat):sIx n d none=d:=rfl
theorem sIx_nat (n d k:Nat):sIx n d (some (k:Int))=min k n:=by
 show (if (k:Int)<0 then ((k:Int)+(n:Int)).toNat else min (k:Int).toNat n)=min k n
 rw[if_neg (by omega),Int.toNat_natCast]
theorem zoY (n d:Nat) (hd:d≤n) (o:Option Int):sIx n d o≤n:=by
 cases o with
 | none=>exact hd
 | some v=>
  show (if v<0 then (v+(n:Int)).toNat else min v.toNat n)≤n
  by_cases hv:v<0
  ·rw[if_pos hv];omega
  ·rw[if_neg hv];exact Nat.min_le_right _ _
theorem zkM (v:Int) (n d:Nat):(if v<0 then max (v+(n:Int)) 0 else min v (n:Int))=((sIx n d (some v):Nat):Int):=by
 show (if v<0 then max (v+(n:Int)) 0 else min v (n:Int))=(((if v<0 then (v+(n:Int)).toNat else min v.toNat n):Nat):Int)
 by_cases hv:v<0
 ·simp only[if_pos hv];omega
 ·simp only[if_neg hv];omega
theorem zjL (lo hi:Option Int) (n:Nat):Builtin.Slice.sliceAdjust lo hi 1 (n:Int)=(((sIx n 0 lo:Nat):Int),((sIx n n hi:Nat):Int)):=by
 have h1:¬ ((1:Int)<0):=by omega
 unfold Builtin.Slice.sliceAdjust
 simp only[h1,if_false]
 refine Prod.ext ?_ ?_
 ·cases lo with
  | none=>rfl
  | some v=>exact zkM v n 0
 ·cases hi with
  | none=>rfl
  | some v=>exact zkM v n n
theorem zjM (i j:Nat):Builtin.Slice.slicePlaces (i:Int) (j:Int) 1=j - i:=by
 unfold Builtin.Slice.slicePlaces
 have h1:(1:Int)>0:=by omega
 simp only[h1,if_true,Int.ediv_one]
 split <;> omega
theorem zgj {v:Value}{o:Option Int}{Q:Option Int→Shared→Prop}(p:IsPart v o) (h:Q o s):wpAny (model prog w) A (Builtin.Slice.slicePartIndex v) Q E s:=by
 cases p with
 | none=>exact slicePart_none h
 | int i t=>exact slicePart_int h
theorem zeR {sl:Addr}{vl vu:Value}{lo hi:Option Int}{n:Nat}{Q:Int × Int × Nat→Shared→Prop}(hs:s.heap.IsSliceOf sl vl vu .none) (pl:IsPart vl lo) (pu:IsPart vu hi)
  (h:Q (((sIx n 0 lo:Nat):Int),1,sIx n n hi - sIx n 0 lo) s):wpAny (model prog w) A (Builtin.Slice.sliceApplied (.ref sl) (pure (n:Int))) Q E s:=by
 obtain⟨os,hos,hcs,hds⟩:=id hs
 unfold Builtin.Slice.sliceApplied Builtin.Slice.sliceFields
 refine wpAny_bind (wpAny_bind (wpAny_field hos hds (x:=vl) rfl (wpAny_bind (wpAny_field hos hds (x:=vu) rfl (wpAny_bind (wpAny_field hos hds (x:=.none) rfl (wpAny_pure ?_)))))))
 refine wpAny_bind (slicePart_none ?_)
 show wpAny _ _ (if ((1:Int) == 0)=true then _ else _) _ _ s
 rw[if_neg (by decide)]
 refine wpAny_bind (zgj pl (wpAny_bind (zgj pu (wpAny_bind (wpAny_pure ?_)))))
 show wpAny _ _ (match Builtin.Slice.sliceAdjust lo hi 1 (n:Int) with | (lo,hi)=>pure (lo,(1:Int),Builtin.Slice.slicePlaces lo hi 1)) _ _ s
 rw[zjL lo hi n]
 show wpAny _ _ (pure (((sIx n 0 lo:Nat):Int),(1:Int),Builtin.Slice.slicePlaces ((sIx n 0 lo:Nat):Int) ((sIx n n hi:Nat):Int) 1)) _ _ s
 rw[zjM]
 exact wpAny_pure h
theorem zl4 (xs:Array Value) (i k:Nat):((List.range k).filterMap λ(m:Nat)=>xs[((i:Int)+(m:Int) * 1).toNat]?).toArray=((xs.toList.drop i).take k).toArray:=by
 have e:(λ(m:Nat)=>xs[((i:Int)+(m:Int) * 1).toNat]?)=λm=>xs[i+m]?:=by
  funext m
  have:((i:Int)+(m:Int) * 1).toNat=i+m:=by omega
  rw[this]
 rw[e]
 have:=pick_run xs i k
 rw[List.filterMap_map] at this
 have e2:((λx=>xs[x]?) ∘ λx=>i+x)=λm=>xs[i+m]?:=rfl
 rw[e2] at this
 rw[this]
theorem getItem_tuple_cut {t sl:Addr}{items:Array Value}{vl vu:Value}{lo hi:Option Int}{Q:Value→Shared→Prop}(ht:IsTup s.heap t items) (hs:s.heap.IsSliceOf sl vl vu .none) (pl:IsPart vl lo) (pu:IsPart vu hi)
  (hw:¬ (sIx items.size 0 lo=0∧sIx items.size items.size hi=items.size))
  (h:Q (.ref s.heap.objs.size) {s with heap:=s.heap.push {cls:=.type "tuple",data:=.seq ((items.toList.drop (sIx items.size 0 lo)).take (sIx items.size items.size hi - sIx items.size 0 lo)).toArray}})
  (hsz:items.size≤sizeLine):wpAny (model prog w) A (getItem (.ref t) (.ref sl)) Q E s:=by
 have htake:sizeOk (.seq ((items.toList.drop (sIx items.size 0 lo)).take (sIx items.size items.size hi - sIx items.size 0 lo)).toArray):=by
  show ((items.toList.drop (sIx items.size 0 lo)).take (sIx items.size items.size hi - sIx items.size 0 lo)).toArray.size≤sizeLine
  rw[zst,List.length_take,List.length_drop,Array.length_toList]
  omega
 have hj:sIx items.size items.size hi≤items.size:=zoY _ _ (Nat.le_refl _) hi
 obtain⟨os,hos,hcs,hds⟩:=id hs
 have hTs:s.TypeIs (.ref sl) "slice":=⟨os,hos,hcs⟩
 unfold getItem
 try with_reducible refine wpAny_holding ?_
 first | refine wpAny_bind (wpAny_pure ?_) | skip
 refine wpAny_bind (wpAny_sequenceKey ht.typeIs (by decide) ?_)
 refine wpAny_bind (wpAny_callSpecial?_slot (name:=Str.ofString "__getitem__") ht.typeIs PyProof.Rows.slot_tuple_getitem
  (wpAny_call_entry PyProof.Rows.slot_tuple_getitem ht.typeIs entry_tuple_getitem ?_ (args_tuple_getitem _ _)))
 show wpAny _ _ (Builtin.Tuple.tupleItemsOf (.ref t) >>= _) _ _ s
 refine wpAny_bind (tupleItemsOf_ ht ?_)
 refine wpAny_bind (wpAny_typeOf hTs ?_)
 rw[if_pos (by decide)]
 refine wpAny_bind (zeR hs pl pu ?_)
 have hno:¬ ((((sIx items.size 0 lo:Nat):Int) == 0 && (1:Int) == 1 && (sIx items.size items.size hi - sIx items.size 0 lo) == items.size)=true):=by
  intro q
  rw[Bool.and_eq_true,Bool.and_eq_true] at q
  have q1:((sIx items.size 0 lo:Nat):Int)=0:=eq_of_beq q.1.1
  have q2:sIx items.size items.size hi - sIx items.size 0 lo=items.size:=eq_of_beq q.2
  exact hw ⟨by omega,by omega⟩
 show wpAny _ _ (if (((sIx items.size 0 lo:Nat):Int) == 0 && (1:Int) == 1 && (sIx items.size items.size hi - sIx items.size 0 lo) == items.size)=true then _ else _) _ _ s
 rw[if_neg hno,zl4]
 first
  | exact wpAny_bind (m:=Builtin.Tuple.tupleExact _) (wpAny_newObj_type (wpAny_pure ⟨_,rfl,wpAny_pure h⟩) htake)
  | exact wpAny_bind (m:=Builtin.Tuple.tupleExact _) (wpAny_newObj_type (wpAny_bind (wpAny_pure (wpAny_pure ⟨_,rfl,wpAny_pure h⟩))) htake)
  | exact wpAny_bind (wpAny_bind (m:=Builtin.Tuple.tupleExact _) (wpAny_newObj_type (wpAny_pure (wpAny_pure ⟨_,rfl,wpAny_pure h⟩)) htake))
  | exact wpAny_bind (wpAny_bind (m:=Builtin.Tuple.tupleExact _) (wpAny_newObj_type (wpAny_pure ⟨_,rfl,wpAny_pure h⟩) htake))
end
end HT

namespace L2
open PySem PySem.Spec PyProof.Rows

abbrev TO:=St→Hp→(Option Int→Hp→Prop)→Prop
def PO (X:Cx) (e:Option Expr) (t:TO):Prop:=
 ∀ (pins:List (Addr × Obj)) (s:Shared) (σ:St) (H:Hp) (Q:Option Int→Hp→Prop),Inv X pins σ H s→t σ H Q→
  wpAny (model X.prog X.w) X.A (evalPart e X.env) (λu s'=>∃ o H',Inv X pins σ H' s'∧IsPart u o∧Q o H') X.xe s
def zkN:TO:=λ_ H Q=>Q none H
def zoZ (t:TE):TO:=λσ H Q=>t σ H λx H1=>∃ i,x=.int i∧Q (some i) H1
theorem zjN {ns:List Int} : ∀ {us:List Value},Vals (ns.map V.int) us→IntsAre us ns:=by
 induction ns with
 | nil=>intro us r;rw[List.map_nil] at r;cases r;exact .nil
 | cons n ns ih=>
  intro us r
  rw[zmc] at r
  cases r with
  | cons r1 r2=>
   obtain⟨t,e⟩:=r1
   subst e
   exact .cons n t (ih r2)
section
variable {X : Cx} {e : Expr} {te : TE} {lo hi : Option Expr} {tl th : TO} {pos p2 : Pos}

theorem zim:PO X none zkN:=by
 intro pins s σ H Q I h
 rw[evalPart_none]
 exact wpAny_pure ⟨none,H,I,.none,h⟩
theorem zin (h:PE X e te):PO X (some e) (zoZ te):=by
 intro pins s σ H Q I hw
 rw[evalPart_some]
 refine thn (h pins s σ H _ I hw) λu s1 ⟨x,H1,I1,r1,q1⟩=>?_
 obtain⟨i,rfl,q⟩:=q1
 obtain⟨t,rfl⟩:=r1
 exact⟨some i,H1,I1,.int i t,q⟩
def SlR (X:Cx) (r:V→Option Int→Option Int→Hp→VK→Prop):Prop:=
 ∀ (pins:List (Addr × Obj)) (s:Shared) (σ:St) (H:Hp) (x:V) (v vl vu:Value) (lo hi:Option Int) (sl:Addr) (Q:VK),Inv X pins σ H s→RelV x v→s.heap.IsSliceOf sl vl vu .none→IsPart vl lo→IsPart vu hi→r x lo hi H Q→
  ∃ T id,typeLookup (.type T) "__getitem__"=pure (some (.builtin id))∧s.TypeIs v T∧wpAny (model X.prog X.w) X.A (getItem v (.ref sl)) (EP X pins σ Q) X.xe s
theorem SlR.or {r r':V→Option Int→Option Int→Hp→VK→Prop}(h:SlR X r) (h':SlR X r'):SlR X (λx lo hi H Q=>r x lo hi H Q∨r' x lo hi H Q):=by
 intro pins s σ H x v vl vu lo hi sl Q I rx hs pl pu q
 rcases q with q | q
 ·exact h pins s σ H x v vl vu lo hi sl Q I rx hs pl pu q
 ·exact h' pins s σ H x v vl vu lo hi sl Q I rx hs pl pu q
def tSl (r:V→Option Int→Option Int→Hp→VK→Prop) (te:TE) (tl th:TO):TE:=λσ H Q=>te σ H λx H1=>tl σ H1 λl H2=>th σ H2 λu H3=>r x l u H3 Q
theorem zgC {r:V→Option Int→Option Int→Hp→VK→Prop}(hr:SlR X r) (he:PE X e te) (hl:PO X lo tl) (hu:PO X hi th):PE X (.Subscript e (.Slice lo hi none p2) pos) (tSl r te tl th):=by
 intro pins s σ H Q I h
 refine Subscript_ (thn (he pins s σ H _ I h) λv s1 ⟨x,H1,I1,r1,q1⟩=>?_)
 refine wpAny_Slice (thn (hl pins s1 σ H1 _ I1 q1) λvl s2 ⟨l,H2,I2,pl,q2⟩=>thn (hu pins s2 σ H2 _ I2 q2) λvu s3 ⟨u,H3,I3,pu,q3⟩=>?_)
 rw[evalPart_none]
 refine wpAny_pure ?_
 have I4:Inv X pins σ H3 {s3 with heap:=s3.heap.push {cls:=.type "slice",data:=.fields #[vl,vu,.none]}}:=I3.kept (t':=s3.toks) λb ob q=>Heap.get?_push_of_some _ q
 obtain⟨T,id,hT,ht,hg⟩:=hr pins {s3 with heap:=s3.heap.push {cls:=.type "slice",data:=.fields #[vl,vu,.none]}} σ H3 x v vl vu l u s3.heap.objs.size Q I4 r1 (Heap.IsSliceOf.new ..) pl pu q3
 show wpAny (model X.prog X.w) X.A (subscriptTail e (.Slice lo hi none p2) v (.ref s3.heap.objs.size)) (EP X pins σ Q) X.xe {s3 with heap:=s3.heap.push {cls:=.type "slice",data:=.fields #[vl,vu,.none]}}
 exact tail_any (ops:=[.ref s3.heap.objs.size,v]) ht hT hg (by with_unfolding_all rfl)
def cutV (xs:List V) (lo hi:Option Int):List V:=(xs.drop (HT.sIx xs.length 0 lo)).take (HT.sIx xs.length xs.length hi - HT.sIx xs.length 0 lo)
theorem zff (xs:List V) (lo hi:Option Int):(cutV xs lo hi).length≤xs.length:=by
 unfold cutV
 rw[List.length_take,List.length_drop]
 omega
def rSlT (K:Fg):V→Option Int→Option Int→Hp→VK→Prop:=λx lo hi H Q=>∃ a xs,x=.ref a∧SqT K H a xs∧
 ¬ (HT.sIx xs.length 0 lo=0∧HT.sIx xs.length xs.length hi=xs.length)∧∀ p,H p=none→Q (.ref p) (upd H p (.tup (cutV xs lo hi)))
theorem zo0:SlR X (rSlT X.K):=by
 intro pins s σ H x v vl vu lo hi sl Q I rx hs pl pu h
 obtain⟨a,xs,rfl,hx,hw,q⟩:=h
 cases rx
 obtain⟨its,r,ht,hz⟩:=I.tuple hx
 have hlen:its.toArray.size=xs.length:=by rw[zst];exact r.length.symm
 refine⟨"tuple",_,PyProof.Rows.slot_tuple_getitem.lookup,ht.typeIs,?_⟩
 refine HT.getItem_tuple_cut ht hs pl pu (by rw[hlen];exact hw) ?_ (by rw[hlen];exact hz)
 rw[hlen]
 refine⟨.ref s.heap.objs.size,_,I.laid (t':=s.toks) (o:=.tup (cutV xs lo hi)) (λb ob q=>Heap.get?_push_of_some _ q) (Nat.le_refl _) ?_,rfl,q _ (I.hok.fresh (Nat.le_refl _))⟩
 exact⟨Nat.le_trans (zff xs lo hi) hz,_,(r.drop (HT.sIx xs.length 0 lo)).take (HT.sIx xs.length xs.length hi - HT.sIx xs.length 0 lo),IsTup.new _ _⟩
def zo1 (K:Fg):R2:=λx y H Q=>∃ a b xs ys,x=.ref a∧y=.ref b∧SqT K H a xs∧SqT K H b ys∧xs≠[]∧xs.length+ys.length≤sizeLine∧
 (ys=[]→Q (.ref a) H)∧(ys≠[]→∀ p,H p=none→Q (.ref p) (upd H p (.tup (xs++ys))))
theorem Vals.nil_iff {xs:List V}{us:List Value}(r:Vals xs us):us=[]↔xs=[]:=by
 cases r with
 | nil=>simp
 | cons _ _=>simp
theorem znI:OpR X (binaryOp .Add) (zo1 X.K):=by
 intro pins s σ H x y v u Q I rx ry h
 obtain⟨a,b,xs,ys,rfl,rfl,ha,hb,hx,hz,q1,q2⟩:=h
 cases rx
 cases ry
 obtain⟨its,r1,p1,_⟩:=I.tuple ha
 obtain⟨its2,r2,p2,_⟩:=I.tuple hb
 refine HT.cat_tup p1 p2 (λz=>hx (r1.nil_iff.mp z)) (λz=>⟨.ref a,H,I,rfl,q1 (r2.nil_iff.mp z)⟩) (λz=>?_) (by rw[←r1.length,←r2.length];exact hz)
 refine⟨.ref s.heap.objs.size,_,I.laid (t':=s.toks) (o:=.tup (xs++ys)) (λb ob q=>Heap.get?_push_of_some _ q) (Nat.le_refl _) ?_,rfl,q2 (λw=>z (r2.nil_iff.mpr w)) _ (I.hok.fresh (Nat.le_refl _))⟩
 exact⟨by rw[List.length_append];exact hz,_,r1.append r2,IsTup.new _ _⟩
end
end L2

namespace L2
open PySem PySem.Spec PyProof.Rows

def ixN (n:Nat) (i:Int):Option Nat:=if 0≤i then (if i<n then some i.toNat else none) else if -(n:Int)≤i then some (i+n).toNat else none
def atI {α:Type}(xs:List α) (i:Int):Option α:=(ixN xs.length i).bind λj=>xs[j]?
theorem zkO {n:Nat}{i:Int}{j:Nat}(h:ixN n i=some j):seqIndex? i n=some j∧j<n∧-(n:Int)≤i∧i<n:=by
 unfold ixN at h
 by_cases h0:0≤i
 ·rw[if_pos h0] at h
  by_cases h1:i<n
  ·rw[if_pos h1] at h
   have e:i.toNat=j:=Option.some.inj h
   exact⟨by rw[seqIndex_of h0 h1,e],by omega,by omega,h1⟩
  ·rw[if_neg h1] at h;cases h
 ·rw[if_neg h0] at h
  by_cases h1:-(n:Int)≤i
  ·rw[if_pos h1] at h
   have e:(i+n).toNat=j:=Option.some.inj h
   exact⟨by rw[seqIndex_neg (by omega) h1,e],by omega,h1,by omega⟩
  ·rw[if_neg h1] at h;cases h
theorem zio {α:Type}{xs:List α}{i:Int}{v:α}(h:atI xs i=some v):∃ j,seqIndex? i xs.length=some j∧xs[j]?=some v∧j<xs.length∧-(xs.length:Int)≤i∧i<xs.length:=by
 unfold atI at h
 cases e:ixN xs.length i with
 | none=>rw[e] at h;cases h
 | some j=>
  rw[e] at h
  obtain⟨h1,h2,h3,h4⟩:=zkO e
  exact⟨j,h1,h,h2,h3,h4⟩
theorem zan {α:Type}{xs:List α}{j:Nat}{v:α}(h:xs[j]?=some v):atI xs (j:Int)=some v:=by
 have hj:j<xs.length:=(zge.mp h).1
 have e:ixN xs.length (j:Int)=some j:=by
  unfold ixN
  rw[if_pos (by omega),if_pos (by omega)];simp
 unfold atI;rw[e];exact h
def znJ (b:Expr):Prop:=∀ o i,subscripted b false o i=operate [o,i] (getItem o i)
def IxR (X:Cx) (r:R2):Prop:=
 ∀ (value slice:Expr) (pins:List (Addr × Obj)) (s:Shared) (σ:St) (H:Hp) (x y:V) (v u:Value) (Q:VK),Inv X pins σ H s→RelV x v→RelV y u→r x y H Q→
  subscripted slice false v u=operate [v,u] (getItem v u)→wpAny (model X.prog X.w) X.A (subscriptTail value slice v u) (EP X pins σ Q) X.xe s
def MtR (X:Cx) (id:String) (r:V→List V→Hp→VK→Prop):Prop:=
 ∀ (pins:List (Addr × Obj)) (s:Shared) (σ:St) (H:Hp) (x:V) (xs:List V) (v:Value) (us:List Value) (Q:VK),Inv X pins σ H s→RelV x v→Vals xs us→r x xs H Q→
  wpAny (model X.prog X.w) X.A (call (.builtin id) (v::us)) (EP X pins σ Q) X.xe s
section
variable {X : Cx} {a b : Expr} {ta tb : TE} {pos : Pos}
theorem IxR.or {r r':R2}(h:IxR X r) (h':IxR X r'):IxR X (λx y H Q=>r x y H Q∨r' x y H Q):=by
 intro value slice pins s σ H x y v u Q I rx ry q hs
 rcases q with q | q
 ·exact h value slice pins s σ H x y v u Q I rx ry q hs
 ·exact h' value slice pins s σ H x y v u Q I rx ry q hs
theorem zao {r:R2}(hr:IxR X r) (ha:PE X a ta) (hb:PE X b tb) (hs:znJ b):PE X (.Subscript a b pos) (tOp r ta tb):=by
 intro pins s σ H Q I h
 exact Subscript_ (binT ha hb I h λv u s2 x y H2 I2 rx ry q=>hr a b pins s2 σ H2 x y v u Q I2 rx ry q (hs _ _))
def rIxL (K:Fg):R2:=λx y H Q=>∃ p xs i v,x=.ref p∧y=.int i∧SqL K H p xs∧atI xs i=some v∧Q v H
def rIxT (K:Fg):R2:=λx y H Q=>∃ p xs i v,x=.ref p∧y=.int i∧SqT K H p xs∧atI xs i=some v∧Q v H
def rIxS:R2:=λx y H Q=>∃ z i c,x=.str z∧y=.int i∧z.length≤sizeLine∧atI z.cps.toList i=some c∧Q (.str ⟨#[c]⟩) H
theorem znK:IxR X (rIxL X.K):=by
 intro value slice pins s σ H x y v u Q I rx ry h hs
 obtain⟨p,xs,i,z,rfl,rfl,hq,he,q⟩:=h
 cases rx
 obtain⟨t,rfl⟩:=ry
 obtain⟨its,r,pl,hz⟩:=I.list hq
 obtain⟨j,h1,h2,h3,h4,h5⟩:=zio he
 obtain⟨w,ew,rw'⟩:=r.get h2
 have hl:=r.length
 have hn:=zgi
 have fin:EP X pins σ Q w s:=⟨z,H,I,rw',q⟩
 by_cases h0:0≤i
 ·have hj:i.toNat=j:=by
   rw[seqIndex_of h0 h5] at h1
   exact Option.some.inj h1
  exact item_listR pl.isList h0 (by omega) (by rw[hj];simpa using ew) fin hs
 ·have hj:(i+(its.toArray.size:Int)).toNat=j:=by
   rw[seqIndex_neg (by omega) h4] at h1
   rw[zst,←hl]
   exact Option.some.inj h1
  exact subscriptTail_builtinR (x:=w) pl.isList.typeIs slot_list_getitem.lookup
   (wpAny_getItem_list_neg (Q:=λr s'=>r=w∧EP X pins σ Q r s') pl.isList (by omega) (by rw[zst] <;> omega) (by omega) (by rw[hj];simpa using ew) ⟨rfl,fin⟩) hs
theorem zo2:IxR X (rIxT X.K):=by
 intro value slice pins s σ H x y v u Q I rx ry h hs
 obtain⟨p,xs,i,z,rfl,rfl,hq,he,q⟩:=h
 cases rx
 obtain⟨t,rfl⟩:=ry
 obtain⟨its,r,pl,hz⟩:=I.tuple hq
 obtain⟨j,h1,h2,h3,h4,h5⟩:=zio he
 obtain⟨w,ew,rw'⟩:=r.get h2
 have hl:=r.length
 have hn:=zgi
 have fin:EP X pins σ Q w s:=⟨z,H,I,rw',q⟩
 exact subscriptTail_builtinR (x:=w) pl.typeIs slot_tuple_getitem.lookup
  (getItem_tuple (j:=j) (Q:=λr s'=>r=w∧EP X pins σ Q r s') pl (by omega) (by omega) (by rw[zst,←hl];exact h1) (by simpa using ew) ⟨rfl,fin⟩) hs
theorem zo3:IxR X rIxS:=by
 intro value slice pins s σ H x y v u Q I rx ry h hs
 obtain⟨z,i,c,rfl,rfl,hz,he,q⟩:=h
 obtain⟨t,rfl⟩:=rx
 obtain⟨t',rfl⟩:=ry
 obtain⟨j,h1,h2,h3,h4,h5⟩:=zio he
 have hl:z.cps.toList.length=z.length:=by simp[Str.length]
 rw[hl] at h1 h4 h5
 have hn:=zgi
 exact tail_any (typeIs_str s z t) slot_str_getitem.lookup (getItem_str (c:=c) (by
  have e1:decide (i < -(2 ^ 63:Int))=false:=decide_eq_false (by omega)
  have e2:decide (i≥2 ^ 63)=false:=decide_eq_false (by omega)
  rw[e1,e2,Bool.or_false]) (by rw[h1];simpa using h2) ⟨.str ⟨#[c]⟩,H,I.tok _,⟨_,rfl⟩,q⟩) hs
def rIx (K:Fg):R2:=λx y H Q=>rIxL K x y H Q∨rIxT K x y H Q∨rIxS x y H Q
theorem zo4:IxR X (rIx X.K):=znK.or (zo2.or zo3)
theorem zjO (its:List Value) (n j:Nat) (u:Value):Obj.mapSeq (·.setIfInBounds j u) {cls:=.type "list",data:=.seq its.toArray n}={cls:=.type "list",data:=.seq (its.set j u).toArray n}:=by
 simp[Obj.mapSeq]
theorem Inv.lst {pins:List (Addr × Obj)}{σ:St}{H:Hp}{s:Shared}{p:Addr}{xs:List V}(I:Inv X pins σ H s) (h:H p=some (.lst xs)) :
  ∃ (its:List Value) (n:Nat),Vals xs its∧s.heap.get? p=some {cls:=.type "list",data:=.seq its.toArray n}∧xs.length≤sizeLine:=by
 obtain⟨z,its,n,r,e⟩:=I.hok p _ h
 exact⟨its,n,r,e,z⟩
theorem Inv.lstUpd {pins:List (Addr × Obj)}{σ:St}{H:Hp}{s:Shared}{p:Addr}{xs ys:List V}{its its':List Value}{n n':Nat}{f:Obj→Obj}(I:Inv X pins σ H s) (h:H p=some (.lst xs))
  (ho:s.heap.get? p=some {cls:=.type "list",data:=.seq its.toArray n}) (hf:f {cls:=.type "list",data:=.seq its.toArray n}={cls:=.type "list",data:=.seq its'.toArray n'}) (r:Vals ys its') (hz:ys.length≤sizeLine) (t:Nat) :
  Inv X pins σ (upd H p (.lst ys)) {s with heap:=s.heap.update p f,toks:=t}:=by
 have e:(s.heap.update p f).get? p=some {cls:=.type "list",data:=.seq its'.toArray n'}:=by
  rw[Heap.get?_update_self f ho (by rw[hf] <;> rfl),hf]
 refine I.write (x:=p) (e:=p) (by rw[h];trivial) (.inl rfl) (λb u hb q=>(Heap.get?_update_other _ _ (Ne.symm hb)).trans q) ⟨_,e⟩ ?_
 exact⟨hz,its',n',r,e⟩
def zo5:V→V→V→Hp→(Hp→Prop)→Prop:=λo i v H Q=>∃ p xs k j,o=.ref p∧i=.int k∧H p=some (.lst xs)∧ixN xs.length k=some j∧Q (upd H p (.lst (xs.set j v)))
theorem zbg:PSet X zo5:=by
 intro pins s σ H o i v ov iv u Q I ro ri rv h
 obtain⟨p,xs,k,j,rfl,rfl,hp,hj,q⟩:=h
 cases ro
 obtain⟨t,rfl⟩:=ri
 obtain⟨its,n,r,ho,hz⟩:=I.lst hp
 obtain⟨h1,h2,h3,h4⟩:=zkO hj
 have hl:=r.length
 have hn:=zgi
 have I':Inv X pins σ (upd H p (.lst (xs.set j v))) {s with heap:=s.heap.update p (Obj.mapSeq (·.setIfInBounds j u))}:=
  I.lstUpd hp ho (zjO its n j u) (r.set rv j) (by rw[List.length_set];exact hz) s.toks
 by_cases h0:0≤k
 ·have hk:k.toNat=j:=by
   rw[seqIndex_of h0 h4] at h1
   exact Option.some.inj h1
  exact PySem.W.ki_setAt ho h0 (by omega) (by rw[zst,←hl];exact h4) (by rw[hk];exact⟨_,I',q⟩)
 ·have hk:(k+(its.toArray.size:Int)).toNat=j:=by
   rw[seqIndex_neg (by omega) h3] at h1
   rw[zst,←hl]
   exact Option.some.inj h1
  exact PySem.W.ki_setBack ho (by omega) (by rw[zst,←hl];exact h3) (by omega) (by rw[hk];exact⟨_,I',q⟩)
theorem zhg (lo hi:Option Int) (n:Nat):(sliceBounds lo hi none n).1=((HT.sIx n 0 lo:Nat):Int)∧(sliceBounds lo hi none n).2.1=((HT.sIx n n hi:Nat):Int)∧(sliceBounds lo hi none n).2.2=1:=by
 refine⟨?_,?_,rfl⟩
 ·cases lo with
  | none=>simp[sliceBounds,HT.sIx]
  | some i=>
   simp only[sliceBounds,HT.sIx,Option.getD_none,show (1:Int)>0 by decide,if_true]
   by_cases h:i<0
   ·simp only[h,if_true] <;> omega
   ·simp only[h,if_false] <;> omega
 ·cases hi with
  | none=>simp[sliceBounds,HT.sIx]
  | some i=>
   simp only[sliceBounds,HT.sIx,Option.getD_none,show (1:Int)>0 by decide,if_true]
   by_cases h:i<0
   ·simp only[h,if_true] <;> omega
   ·simp only[h,if_false] <;> omega
theorem zgD (its:List Value) (lo hi:Option Int):slicePick its.toArray lo hi none=((its.drop (HT.sIx its.length 0 lo)).take (HT.sIx its.length its.length hi - HT.sIx its.length 0 lo)).toArray:=by
 obtain⟨h1,h2,h3⟩:=zhg lo hi its.toArray.size
 unfold slicePick
 rw[h1,h2,h3]
 simp only[sliceRange_one,pick_run,zst] <;> rfl
def rSlL (K:Fg):V→Option Int→Option Int→Hp→VK→Prop:=λx lo hi H Q=>∃ a xs,x=.ref a∧SqL K H a xs∧∀ p,H p=none→Q (.ref p) (upd H p (.lst (cutV xs lo hi)))
theorem znL:SlR X (rSlL X.K):=by
 intro pins s σ H x v vl vu lo hi sl Q I rx hs pl pu h
 obtain⟨a,xs,rfl,hx,q⟩:=h
 cases rx
 obtain⟨its,r,ht,hz⟩:=I.list hx
 have hlen:=r.length
 refine⟨"list",_,slot_list_getitem.lookup,ht.isList.typeIs,?_⟩
 refine wpAny_getItem_list_slice ht.isList hs pl pu .none (by simp) ?_ (by rw[zst] <;> omega)
 rw[zgD,←hlen]
 refine⟨.ref s.heap.objs.size,_,I.laid (t':=s.toks) (o:=.lst (cutV xs lo hi)) (λb ob q=>Heap.get?_push_of_some _ q) (Nat.le_refl _) ?_,rfl,q _ (I.hok.fresh (Nat.le_refl _))⟩
 exact⟨Nat.le_trans (zff xs lo hi) hz,_,0,(r.drop (HT.sIx xs.length 0 lo)).take (HT.sIx xs.length xs.length hi - HT.sIx xs.length 0 lo),Heap.get?_push_size _ rfl⟩
def zdg:V→Bool
 | .non=>true
 | .bl _=>true
 | .int _=>true
 | .str _=>true
 | _=>false
def eqV:V→V→Bool
 | .non,.non=>true
 | .bl a,.bl b=>a == b
 | .bl a,.int b=>(if a then 1 else 0) == b
 | .int a,.bl b=>a == (if b then 1 else 0)
 | .int a,.int b=>a == b
 | .str a,.str b=>a == b
 | _,_=>false
theorem zm0 {A:Around}{s:Shared}{y x:V}{u v:Value}(ry:RelV y u) (rx:RelV x v) (fy:zdg y=true) (fx:zdg x=true):SeqAt.EqAt A s u v (eqV y x):=by
 cases y with
 | non=>
  cases ry
  cases x with
  | non=>cases rx;exact SeqAt.EqAt.same _
  | bl b=>cases rx;exact SeqAt.EqAt.none_bool b
  | int b=>obtain⟨t,rfl⟩:=rx;exact SeqAt.EqAt.none_int b t
  | str b=>obtain⟨t,rfl⟩:=rx;exact SeqAt.EqAt.none_str b t
  | _=>exact absurd (show false=true from fx) Bool.false_ne_true
 | bl a=>
  cases ry
  cases x with
  | non=>cases rx;exact SeqAt.EqAt.bool_none a
  | bl b=>cases rx;exact SeqAt.EqAt.bool_bool a b
  | int b=>obtain⟨t,rfl⟩:=rx;exact SeqAt.EqAt.bool_int a b t
  | str b=>obtain⟨t,rfl⟩:=rx;exact SeqAt.EqAt.bool_str a b t
  | _=>exact absurd (show false=true from fx) Bool.false_ne_true
 | int a=>
  obtain⟨t',rfl⟩:=ry
  cases x with
  | non=>cases rx;exact SeqAt.EqAt.int_none a t'
  | bl b=>cases rx;exact SeqAt.EqAt.int_bool a t' b
  | int b=>obtain⟨t,rfl⟩:=rx;exact SeqAt.EqAt.int_int a t' b t
  | str b=>obtain⟨t,rfl⟩:=rx;exact SeqAt.EqAt.int_str a t' b t
  | _=>exact absurd (show false=true from fx) Bool.false_ne_true
 | str a=>
  obtain⟨t',rfl⟩:=ry
  cases x with
  | non=>cases rx;exact SeqAt.EqAt.str_none a t'
  | bl b=>cases rx;exact SeqAt.EqAt.str_bool a t' b
  | int b=>obtain⟨t,rfl⟩:=rx;exact SeqAt.EqAt.str_int a t' b t
  | str b=>obtain⟨t,rfl⟩:=rx;exact SeqAt.EqAt.str_str a t' b t
  | _=>exact absurd (show false=true from fx) Bool.false_ne_true
 | _=>exact absurd (show false=true from fy) Bool.false_ne_true
def eqU (x:V) (u:Value):Bool:=match u with
 | .none=>eqV .non x
 | .bool b=>eqV (.bl b) x
 | .int i _=>eqV (.int i) x
 | .str z _=>eqV (.str z) x
 | _=>false
theorem zm1 {x y:V}{u:Value}(r:RelV y u) (f:zdg y=true):eqU x u=eqV y x:=by
 cases y with
 | non=>cases r;rfl
 | bl b=>cases r;rfl
 | int i=>obtain⟨t,rfl⟩:=r;rfl
 | str z=>obtain⟨t,rfl⟩:=r;rfl
 | _=>exact absurd (show false=true from f) Bool.false_ne_true
theorem ziq {x:V} : ∀ {xs:List V}{us:List Value},Vals xs us→xs.all zdg=true→us.any (eqU x)=xs.any λy=>eqV y x
 | _,_,.nil,_=>rfl
 | y::xs,u::us,.cons r t,f=>by
  rw[List.all_cons,Bool.and_eq_true] at f
  rw[List.any_cons,List.any_cons,zm1 r f.1,ziq t f.2]
theorem zgE {A:Around}{s:Shared}{x:V}{v:Value}(rx:RelV x v) (fx:zdg x=true):∀ {xs:List V}{us:List Value},Vals xs us→xs.all zdg=true→∀ u∈us,SeqAt.EqAt A s u v (eqU x u)
 | _,_,.nil,_=>λu hu=>by cases hu
 | y::xs,u::us,.cons r t,f=>λu' hu=>by
  rw[List.all_cons,Bool.and_eq_true] at f
  rcases List.mem_cons.mp hu with rfl | hu
  ·rw[zm1 r f.1];exact zm0 r rx f.1 fx
  ·exact zgE rx fx t f.2 u' hu
def inV (x:V) (xs:List V):Bool:=xs.any λy=>eqV y x
def rIn (K:Fg) (neg:Bool):R2:=λx y H Q=>∃ p xs,y=.ref p∧(SqL K H p xs∨SqT K H p xs)∧zdg x=true∧xs.all zdg=true∧Q (.bl (if neg then !inV x xs else inV x xs)) H
theorem zkP:OpR X (compareOp .In) (rIn X.K false):=by
 intro pins s σ H x y v u Q I rx ry h
 obtain⟨p,xs,rfl,hq,fx,fs,q⟩:=h
 cases ry
 rcases hq with hq | hq
 ·obtain⟨its,r,pl,hz⟩:=I.list hq
  refine SeqAt.in_listAt (eqU x) pl.isList (λw hw=>zgE rx fx r fs w (by simpa using hw)) ⟨.bl _,H,I,rfl,?_⟩
  rw[show its.toArray.any (eqU x)=its.any (eqU x) by simp,ziq r fs]
  exact q
 ·obtain⟨its,r,pl,hz⟩:=I.tuple hq
  refine SeqAt.in_tupleAt (eqU x) pl (λw hw=>zgE rx fx r fs w (by simpa using hw)) ⟨.bl _,H,I,rfl,?_⟩
  rw[show its.toArray.any (eqU x)=its.any (eqU x) by simp,ziq r fs]
  exact q
theorem zhh:zcu X (.builtin "len") (λxs H Q=>∃ p ys,xs=[.ref p]∧(SqL X.K H p ys∨SqT X.K H p ys)∧Q (.int ys.length) H):=by
 intro pins s σ H xs us Q I r h
 obtain⟨p,ys,rfl,hq,q⟩:=h
 obtain⟨u,rfl,rx⟩:=zik r
 cases rx
 have hn:=zgi
 rcases hq with hq | hq
 ·obtain⟨its,r',pl,hz⟩:=I.list hq
  have hlen:=r'.length
  exact Calls.call_len_list pl.isList (by simp only[zst] <;> omega) ⟨.int ys.length,H,I.tok _,⟨s.toks+1,by rw[zst,hlen]⟩,q⟩
 ·obtain⟨its,r',pl,hz⟩:=I.tuple hq
  have hlen:=r'.length
  exact len_tuple pl (by simp only[zst] <;> omega) ⟨.int ys.length,H,I.tok _,⟨s.toks+1,by rw[zst,hlen]⟩,q⟩
theorem zhi:zcu X (.type "list") (λxs H Q=>∃ p ys,xs=[.ref p]∧(SqL X.K H p ys∨SqT X.K H p ys)∧∀ l,H l=none→Q (.ref l) (upd H l (.lst ys))):=by
 intro pins s σ H xs us Q I r h
 obtain⟨p,ys,rfl,hq,q⟩:=h
 obtain⟨u,rfl,rx⟩:=zik r
 cases rx
 have fin:∀ (its:List Value),Vals ys its→ys.length≤sizeLine→∀ (h':Heap) (c':Nat),(∀ b o',s.heap.get? b=some o'→h'.get? b=some o')→
   h'.get? s.heap.objs.size=some {cls:=.type "list",dict:=none,data:=.seq its.toArray c',slots:=#[]}→EP X pins σ Q (.ref s.heap.objs.size) {s with heap:=h'}:=λits r' hz h' c' kp e=>
  ⟨.ref s.heap.objs.size,_,I.laid (t':=s.toks) kp (Nat.le_refl _) (show zbr X.prog X.w _ h' _ (.lst ys) from ⟨hz,its,c',r',e⟩),rfl,q _ (I.hok.fresh (Nat.le_refl _))⟩
 rcases hq with hq | hq
 ·obtain⟨its,r',pl,hz⟩:=I.list hq
  have hlen:=r'.length
  obtain⟨o,ho,hc,n,hd⟩:=pl.isList
  exact call_list_seq p (.inl rfl) ho hc hd (λh' c' kp e=>fin its r' hz h' c' kp e) (by simp only[zst] <;> omega)
 ·obtain⟨its,r',pl,hz⟩:=I.tuple hq
  have hlen:=r'.length
  obtain⟨o,ho,hc,n,hd⟩:=pl
  exact call_list_seq p (.inr rfl) ho hc hd (λh' c' kp e=>fin its r' hz h' c' kp e) (by simp only[zst] <;> omega)
theorem zgF:zcu X (.type "tuple") (λxs H Q=>∃ p ys,xs=[.ref p]∧((SqL X.K H p ys∧∀ l,H l=none→Q (.ref l) (upd H l (.tup ys)))∨(SqT X.K H p ys∧Q (.ref p) H))):=by
 intro pins s σ H xs us Q I r h
 obtain⟨p,ys,rfl,h⟩:=h
 obtain⟨u,rfl,rx⟩:=zik r
 cases rx
 rcases h with ⟨hq,q⟩ | ⟨hq,q⟩
 ·obtain⟨its,r',pl,hz⟩:=I.list hq
  have hlen:=r'.length
  refine call_tuple_list pl.isList (λh' kp=>?_) (by simp only[zst] <;> omega)
  have I1:Inv X pins σ H {s with heap:=h'}:=I.kept (t':=s.toks) kp
  have I2:Inv X pins σ (upd H h'.objs.size (.tup ys)) {s with heap:=h'.push {cls:=.type "tuple",data:=.seq its.toArray}}:=
   I1.laid (t':=s.toks) (λb o e=>Heap.get?_push_of_some _ e) (Nat.le_refl _) (show zbr X.prog X.w _ _ _ (.tup ys) from ⟨hz,its,r',IsTup.new _ _⟩)
  exact⟨.ref h'.objs.size,_,I2,rfl,q _ (I1.hok.fresh (Nat.le_refl _))⟩
 ·obtain⟨its,r',pl,hz⟩:=I.tuple hq
  exact call_tuple_same pl ⟨.ref p,H,I,rfl,q⟩
def tyV (K:Fg) (T:String) (x:V) (H:Hp):Prop:=match x with
 | .str _=>T ="str"
 | .int _=>T ="int"
 | .ref p=>(T ="list" ∧∃ xs,SqL K H p xs)∨(T ="tuple" ∧∃ o,K.lookup p=some o∧o.cls=.type "tuple" ∧o.dict=none)∨
   (T ="dict" ∧((∃ kvs,H p=some (.dK kvs))∨∃ kvs,H p=some (.dT kvs)))∨(T ="set" ∧∃ S n,H p=some (.set S n))
 | _=>False
theorem zm2 {pins:List (Addr × Obj)}{σ:St}{H:Hp}{s:Shared}{T:String}{x:V}{v:Value}(I:Inv X pins σ H s) (r:RelV x v) (ty:tyV X.K T x H) :
  s.TypeIs v T∧∀ a,v=.ref a→∃ ob,s.heap.get? a=some ob∧ob.dict=none:=by
 cases x with
 | str z=>
  obtain⟨t,rfl⟩:=r
  cases (show T ="str" from ty)
  exact⟨typeIs_str s z t,λ_ e=>nomatch e⟩
 | int i=>
  obtain⟨t,rfl⟩:=r
  cases (show T ="int" from ty)
  exact⟨typeIs_int s i t,λ_ e=>nomatch e⟩
 | ref p=>
  cases r
  rcases ty with ⟨rfl,xs,hq⟩ | ⟨rfl,o,hk,hc,hd⟩ | ⟨rfl,hk⟩ | ⟨rfl,S,n,hk⟩
  ·obtain⟨its,_,pl,_⟩:=I.list hq
   refine⟨pl.isList.typeIs,λa e=>?_⟩
   cases e
   obtain⟨o,n,e,c,hd,_⟩:=pl
   exact⟨o,e,hd⟩
  ·refine⟨⟨o,I.kIn p o hk,hc⟩,λa e=>?_⟩
   cases e
   exact⟨o,I.kIn _ o hk,hd⟩
  ·have z:∃ o,s.heap.get? p=some o∧o.ExactDict:=by
    rcases hk with ⟨kvs,hk⟩ | ⟨kvs,hk⟩
    ·obtain⟨_,_,_,_,o,_,_,e,ex,_⟩:=I.hok p _ hk
     exact⟨o,e,ex⟩
    ·obtain⟨_,_,_,_,o,_,_,e,ex,_⟩:=I.hok p _ hk
     exact⟨o,e,ex⟩
   obtain⟨o,e,ex⟩:=z
   refine⟨⟨o,e,ex.1⟩,λa e2=>?_⟩
   cases e2
   exact⟨o,e,ex.2.1⟩
  ·obtain⟨o,_,_,_,e,ex,_⟩:=I.hok p _ hk
   refine⟨⟨o,e,ex.1⟩,λa e2=>?_⟩
   cases e2
   exact⟨o,e,ex.2.1⟩
 | _=>exact False.elim ty
def tBM0 (K:Fg) (T:String) (r:V→List V→Hp→VK→Prop) (to:TE):TE:=λσ H Q=>to σ H λx H1=>tyV K T x H1∧r x [] H1 Q
def tBM (K:Fg) (T:String) (r:V→List V→Hp→VK→Prop) (to:TE) (t:TA):TE:=λσ H Q=>to σ H λx H1=>tyV K T x H1∧t σ H1 λxs H2=>r x xs H2 Q
variable {o e : Expr} {es : List Expr} {to : TE} {t : TA} {name : Str} {apos cpos : Pos} {T id : String} {r : V → List V → Hp → VK → Prop}
theorem zm3 (pa:PlainAttrs T) (slot:Slot T name id) (hty:typeOf (.builtin id)=pure (.type "method_descriptor")) (hm:MtR X id r) (ho:PE X o to)
  (hbase:attributeBase o name X.env (eval o X.env)=eval o X.env:=by rfl) (hline:(apos.endLine == cpos.line)=true:=by rfl):PE X (.Call (.Attribute o name apos) [] [] cpos) (tBM0 X.K T r to):=by
 intro pins s σ H Q I h
 refine wpAny_Call_method0_late hbase hline (thn (ho pins s σ H _ I h) λv s1 ⟨x,H1,I1,r1,ty,q1⟩=>?_)
 obtain⟨h1,h2⟩:=zm2 I1 r1 ty
 exact⟨T,id,pa,slot,hty,h1,h2,Calls.callWith_builtin rfl (PySem.evalArgs_none (hm pins s1 σ H1 x [] v [] Q I1 r1 .nil q1))⟩
theorem zjP (pa:PlainAttrs T) (slot:Slot T name id) (hty:typeOf (.builtin id)=pure (.type "method_descriptor")) (hm:MtR X id r) (ho:PE X o to) (ha:PA X (e::es) t)
  (hbase:attributeBase o name X.env (eval o X.env)=eval o X.env:=by rfl)
  (hfew:((backTo cpos (starEach (e::es) X.env)).all (λx=>!x.1) && (backToKw cpos (keywordEach [] X.env)).all (λx=>x.1.isSome)
   && decide ((e::es).length+([]:List Keyword).length+(if ([]:List Keyword).isEmpty then 0 else 1)<30))=true:=by rfl)
  (hline:(apos.endLine == cpos.line)=true:=by rfl) (hs:starEach (e::es) X.env=(false,eval e X.env)::starEach es X.env:=by rfl) (hplain:(backTo cpos (starEach es X.env)).any (·.1)=false:=by rfl) :
  PE X (.Call (.Attribute o name apos) (e::es) [] cpos) (tBM X.K T r to t):=by
 intro pins s σ H Q I h
 refine wpAny_Call_method_late hbase hfew hline rfl (thn (ho pins s σ H _ I h) λv s1 ⟨x,H1,I1,r1,ty,q1⟩=>?_)
 obtain⟨h1,h2⟩:=zm2 I1 r1 ty
 refine⟨T,id,pa,slot,hty,h1,h2,?_⟩
 have hA:=ha cpos pins s1 σ H1 _ I1 q1
 rw[hs] at hA ⊢
 refine Calls.callWith_builtin (by show (false || (backTo cpos (starEach es X.env)).any (·.1))=false;rw[hplain] <;> rfl) (Calls.evalArgs_plain ?_)
 exact thn hA λus s2 ⟨vs,H2,I2,r2,q2⟩=>hm pins s2 σ H2 x vs v us Q I2 r1 r2 q2
/- xs.append(e),list.index on a module's tuple .. are MtR facts of 06m -/
end
end L2

namespace L2
open PySem PySem.Spec PyProof.Rows

def MtM (X:Cx) (id:String) (r:V→List V→Hp→VK→Prop):Prop:=
 ∀ (pins:List (Addr × Obj)) (s:Shared) (σ:St) (H:Hp) (x:V) (xs:List V) (v:Value) (us:List Value) (Q:VK),Inv X pins σ H s→RelV x v→Vals xs us→r x xs H Q→
  wpAny (model X.prog X.w) X.A (call (.builtin id) (v::us)) (EP X pins σ Q) X.xe s
theorem Vals.one:∀ {x:V}{us:List Value},Vals [x] us→∃ u,us=[u]∧RelV x u
 | _,_,.cons r .nil=>⟨_,rfl,r⟩
theorem Vals.two:∀ {x y:V}{us:List Value},Vals [x,y] us→∃ u v,us=[u,v]∧RelV x u∧RelV y v
 | _,_,_,.cons r (.cons q .nil)=>⟨_,_,rfl,r,q⟩
theorem Vals.zero:∀ {us:List Value},Vals [] us→us=[]
 | _,.nil=>rfl
theorem Vals.dropLast {xs:List V}{us:List Value}(h:Vals xs us):Vals xs.dropLast us.dropLast:=by
 induction h with
 | nil=>exact .nil
 | cons r t ih=>
  cases t with
  | nil=>exact .nil
  | cons q t'=>exact .cons r ih
theorem Vals.eraseIdx:∀ {xs:List V}{us:List Value}(i:Nat),Vals xs us→Vals (xs.eraseIdx i) (us.eraseIdx i)
 | _,_,_,.nil=>.nil
 | _,_,0,.cons _ t=>t
 | _,_,i+1,.cons r t=>.cons r (Vals.eraseIdx i t)
theorem Vals.rep {xs:List V}{us:List Value}(h:Vals xs us):∀ k:Nat,Vals (List.replicate k xs).flatten (List.replicate k us).flatten
 | 0=>.nil
 | k+1=>by
  rw[List.replicate_succ,List.replicate_succ,List.flatten_cons,List.flatten_cons]
  exact Vals.append h (Vals.rep h k)
theorem zjQ {α:Type}(l:List α):l.eraseIdx (l.length - 1)=l.dropLast:=by
 induction l with
 | nil=>rfl
 | cons a r ih=>
  cases r with
  | nil=>rfl
  | cons b r=>
   have e:(a::b::r).length - 1=((b::r).length - 1)+1:=by
    have h1:(a::b::r).length=r.length+2:=rfl
    have h2:(b::r).length=r.length+1:=rfl
    omega
   rw[e,List.eraseIdx_cons_succ,ih]
   all_goals rfl
theorem zhj {α:Type} : ∀ (l:List α) (i:Nat),(l.eraseIdx i).length≤l.length
 | [],_=>Nat.le_refl _
 | _::_,0=>Nat.le_succ _
 | _::r,i+1=>Nat.succ_le_succ (zhj r i)
theorem zhk (its:List Value):∀ (k:Nat) (acc:List Value),
  List.foldl (λx1 x2=>x1++x2) acc.toArray (List.replicate k its.toArray)=(acc++(List.replicate k its).flatten).toArray
 | 0,acc=>by simp
 | k+1,acc=>by
  have e:acc.toArray++its.toArray=(acc++its).toArray:=by simp
  have e2:(acc++its)++(List.replicate k its).flatten=acc++(List.replicate (k+1) its).flatten:=by
   rw[List.replicate_succ,List.flatten_cons,List.append_assoc]
  rw[←e2,←zhk its k (acc++its),←e,List.replicate_succ,List.foldl_cons]
section
variable {X : Cx} {pins : List (Addr × Obj)} {σ : St} {H : Hp} {s : Shared} {l b : Addr} {xs ys zs : List V}

theorem Inv.lset {its its':List Value}{n:Nat}{f:Array Value→Array Value}{t':Nat}(I:Inv X pins σ H s) (hH:H l=some (.lst xs))
  (e:s.heap.get? l=some {cls:=.type "list",data:=.seq its.toArray n}) (hf:f its.toArray=its'.toArray) (hv:Vals ys its') (hz:ys.length≤sizeLine) :
  Inv X pins σ (upd H l (.lst ys)) {s with heap:=s.heap.update l (Obj.mapSeq f),toks:=t'}:=by
 have q:=PySem.IsL.update e f
 rw[hf] at q
 refine I.write (x:=l) (e:=l) (by rw[hH];exact trivial) (.inl rfl) (λb' u hb hu=>(Heap.get?_update_other s.heap (Obj.mapSeq f) (Ne.symm hb)).trans hu) ⟨_,q⟩ ?_
 exact⟨hz,its',_,hv,q⟩
theorem Inv.lnew {its:List Value}{t':Nat}(I:Inv X pins σ H s) (hv:Vals ys its) (hz:ys.length≤sizeLine) :
  Inv X pins σ (upd H s.heap.objs.size (.lst ys)) {s with heap:=s.heap.push {cls:=.type "list",data:=.seq its.toArray},toks:=t'}:=
 I.laid (λ_ _ q=>Heap.get?_push_of_some _ q) (Nat.le_refl _) ⟨hz,its,0,hv,Heap.get?_push_size _ rfl⟩
theorem Inv.fresh (I:Inv X pins σ H s):H s.heap.objs.size=none:=I.hok.fresh (Nat.le_refl _)
theorem Inv.lstM (I:Inv X pins σ H s) (hH:H l=some (.lst xs)):xs.length≤sizeLine∧∃ (its:List Value) (n:Nat),Vals xs its∧xs.length=its.length∧s.heap.get? l=some {cls:=.type "list",data:=.seq its.toArray n}:=by
 obtain⟨z,its,n,r,e⟩:=I.hok l _ hH
 exact⟨z,its,n,r,r.length,e⟩
theorem zl5 {n:Nat}(h:n≤sizeLine):Builtin.List.listTooLong n=false:=by
 unfold Builtin.List.listTooLong
 exact decide_eq_false (by omega)
end

section
variable {X : Cx}

def zkQ:V→List V→Hp→VK→Prop:=λx vs H Q=>∃ l xs y,x=.ref l∧vs=[y]∧H l=some (.lst xs)∧xs.length<sizeLine∧Q .non (upd H l (.lst (xs++[y])))
theorem zdh:MtM X "list.append" zkQ:=by
 intro pins s σ H x vs v us Q I rx rv h
 obtain⟨l,xs,y,rfl,rfl,hH,hz,q⟩:=h
 cases rx
 obtain⟨u,rfl,ru⟩:=rv.one
 obtain⟨z,its,n,r,hl,e⟩:=I.lstM hH
 refine call_meets F.slot_list_append ⟨_,e,rfl⟩ F.entry_list_append (F.args_list_append_2 _ _) (PySem.list_append l its.toArray n u (by rw[zst];omega)) ⟨e,?_⟩
 refine⟨.non,_,I.lset (its':=its++[u]) hH e (by simp) (r.append (.cons ru .nil)) ?_,rfl,q⟩
 rw[List.length_append,List.length_singleton]
 omega
def rPop:V→List V→Hp→VK→Prop:=λx vs H Q=>∃ l xs y,x=.ref l∧vs=[]∧H l=some (.lst xs)∧xs[xs.length - 1]?=some y∧Q y (upd H l (.lst xs.dropLast))
theorem zm4:MtM X "list.pop" rPop:=by
 intro pins s σ H x vs v us Q I rx rv h
 obtain⟨l,xs,y,rfl,rfl,hH,hy,q⟩:=h
 cases rx
 have hus:=rv.zero
 subst hus
 obtain⟨z,its,n,r,hl,e⟩:=I.lstM hH
 obtain⟨u,hu,ru⟩:=r.get hy
 have hy':its.toArray[its.toArray.size - 1]?=some u:=by
  show its.toArray[its.length - 1]?=some u
  rw[←Array.getElem?_toList,←hl]
  exact hu
 refine call_meets F.slot_list_pop ⟨_,e,rfl⟩ F.entry_list_pop (F.args_list_pop_1 _) (MeetsSeq.list_pop_last l its.toArray n u hy' (by rw[zst];omega)) ⟨e,?_⟩
 refine⟨y,_,I.lset (its':=its.dropLast) hH e ?_ r.dropLast ?_,ru,q⟩
 ·show its.toArray.eraseIdxIfInBounds (its.toArray.size - 1)=its.dropLast.toArray
  rw[zst,List.eraseIdxIfInBounds_toArray,zjQ]
 ·rw[List.length_dropLast]
  omega
def zm5:V→List V→Hp→VK→Prop:=λx vs H Q=>∃ l xs i k y,x=.ref l∧vs=[.int i]∧H l=some (.lst xs)∧-(2 ^ 63)≤i∧i<2 ^ 63∧seqIndex? i xs.length=some k∧xs[k]?=some y∧Q y (upd H l (.lst (xs.eraseIdx k)))
theorem zi9:MtM X "list.pop" zm5:=by
 intro pins s σ H x vs v us Q I rx rv h
 obtain⟨l,xs,i,k,y,rfl,rfl,hH,h1,h2,hk,hy,q⟩:=h
 cases rx
 obtain⟨u,rfl,ru⟩:=rv.one
 obtain⟨t,rfl⟩:=ru
 obtain⟨z,its,n,r,hl,e⟩:=I.lstM hH
 obtain⟨w,hw,rw'⟩:=r.get hy
 refine call_meets F.slot_list_pop ⟨_,e,rfl⟩ F.entry_list_pop (F.args_list_pop_2 _ _)
  (MeetsSeq.list_pop_at l its.toArray n i t k w (fitsIndex_both h1 h2) (by rw[zst,←hl];exact hk) (by rw[←Array.getElem?_toList];exact hw) (by rw[zst];omega)) ⟨e,?_⟩
 refine⟨y,_,I.lset (its':=its.eraseIdx k) hH e ?_ (r.eraseIdx k) ?_,rw',q⟩
 ·show its.toArray.eraseIdxIfInBounds k=(its.eraseIdx k).toArray
  rw[List.eraseIdxIfInBounds_toArray]
 ·have:=zhj xs k
  omega
def rCat:R2:=λx y H Q=>∃ l b xs zs,x=.ref l∧y=.ref b∧H l=some (.lst xs)∧H b=some (.lst zs)∧xs.length+zs.length≤sizeLine∧∀ p,H p=none→Q (.ref p) (upd H p (.lst (xs++zs)))
theorem zo6:OpR X (binaryOp .Add) rCat:=by
 intro pins s σ H x y v u Q I rx ry h
 obtain⟨l,b,xs,zs,rfl,rfl,hH,hB,hz,q⟩:=h
 cases rx
 cases ry
 obtain⟨z,its,n,r,hl,e⟩:=I.lstM hH
 obtain⟨z2,its2,n2,r2,hl2,e2⟩:=I.lstM hB
 refine PySem.P.add_list e e2 ?_ (by rw[zst,zst];omega)
 have ea:its.toArray++its2.toArray=(its++its2).toArray:=by simp
 rw[ea]
 exact⟨.ref _,_,I.lnew (t':=s.toks) (r.append r2) (by rw[List.length_append];omega),rfl,q _ I.fresh⟩
def rRep:R2:=λx y H Q=>∃ l k xs,x=.ref l∧y=.int k∧H l=some (.lst xs)∧-(2 ^ 63)≤k∧k<2 ^ 63∧xs.length * k.toNat≤sizeLine∧
 ∀ p,H p=none→Q (.ref p) (upd H p (.lst (List.replicate k.toNat xs).flatten))
theorem znM {α:Type}(xs:List α) (k:Nat):(List.replicate k xs).flatten.length=k * xs.length:=by
 induction k with
 | zero=>simp
 | succ k ih=>rw[List.replicate_succ,List.flatten_cons,List.length_append,ih,Nat.succ_mul,Nat.add_comm]
theorem zo7:OpR X (binaryOp .Mult) rRep:=by
 intro pins s σ H x y v u Q I rx ry h
 obtain⟨l,k,xs,rfl,rfl,hH,h1,h2,hz,q⟩:=h
 cases rx
 obtain⟨t,rfl⟩:=ry
 obtain⟨z,its,n,r,hl,e⟩:=I.lstM hH
 have hlen:its.toArray.size * k.toNat≤sizeLine:=by rw[zst,←hl];exact hz
 have hcap:¬ its.toArray.size * k.toNat>(2 ^ 63 - 1) / 8:=by
  have:(sizeLine:Nat)≤(2 ^ 63 - 1) / 8:=by decide
  omega
 have hfit:¬ (!Builtin.List.listFitsIndex k)=true:=by
  rw[fitsIndex_both h1 h2]
  exact Bool.false_ne_true
 have hlong:¬ Builtin.List.listTooLong (its.toArray.size * k.toNat)=true:=by
  rw[zl5 hlen]
  exact Bool.false_ne_true
 have hnew:List.foldl (λx1 x2=>x1++x2) #[] (List.replicate (if its.toArray.isEmpty=true then 0 else k.toNat) its.toArray)=(List.replicate k.toNat its).flatten.toArray:=by
  have f0:∀ m:Nat,List.foldl (λx1 x2=>x1++x2) #[] (List.replicate m its.toArray)=(List.replicate m its).flatten.toArray:=λm=>by
   have:=zhk its m []
   rw[List.nil_append] at this
   exact this
  rw[f0]
  cases its with
  | nil=>simp
  | cons a r'=>rw[if_neg (by simp)]
 refine wpAny_binaryOp_repeat_ref (T:="list") (U:="int") (by decide) ⟨_,e,rfl⟩ (λs'=>typeIs_int s' k t) noFill_list_mul F.fills_int_mul F.slot_int_rmul repeat_list F.slot_int_index.lookup
  (call_meets F.slot_int_rmul (typeIs_int s k t) F.entry_int_rmul (F.args_int_rmul_2 _ _) (int___rmul___int_list k t l its.toArray n)
   ⟨e,rfl,⟨_,e,rfl⟩,call_meets F.slot_list_mul ⟨_,e,rfl⟩ F.entry_list_mul (F.args_list_mul_2 _ _) (AutoListH.list___mul___list_int_3 l its.toArray n k t hfit hcap hlong) ⟨e,?_⟩⟩)
 rw[hnew]
 exact⟨.ref _,_,I.lnew (t':=s.toks) (r.rep k.toNat) (by rw[znM,Nat.mul_comm];exact hz),rfl,q _ I.fresh⟩
end

section
variable {prog : Program} {w : World} {A : Around} {E : Value → Shared → Prop} {s : Shared}
set_option maxRecDepth 100000 in
end

section
variable {X : Cx}
end
end L2
namespace L2
open PySem PySem.Spec PyProof.Rows

section
variable {κ : Type} [DecidableEq κ]
def valV (kvs:List (κ × V)) (k:κ):Option V:=(kvs.find? λkv=>decide (kv.1=k)).map (·.2)
def putK (kvs:List (κ × V)) (k:κ) (v:V):List (κ × V):=
 if (kvs.any λkv=>decide (kv.1=k))=true then kvs.map (λkv=>if kv.1=k then (kv.1,v) else kv) else kvs++[(k,v)]
def zdd (kvs:List (κ × V)) (k:κ):List (κ × V):=kvs.filter λkv=>decide (kv.1≠k)
theorem zbs {p:κ × V}{r:List (κ × V)}{k:κ}(e:p.1=k):valV (p::r) k=some p.2:=by simp[valV,List.find?_cons,e]
theorem zbl {p:κ × V}{r:List (κ × V)}{k:κ}(e:¬ p.1=k):valV (p::r) k=valV r k:=by simp[valV,List.find?_cons,e]
theorem zcx (k:κ):∀ kvs:List (κ × V),(kvs.any λkv=>decide (kv.1=k))=(valV kvs k).isSome
 | []=>rfl
 | p::r=>by
  rw[List.any_cons]
  by_cases e:p.1=k
  ·simp only[zbs e,decide_eq_true e,Bool.true_or,Option.isSome_some]
  ·rw[zbl e,decide_eq_false e,Bool.false_or];exact zcx k r
theorem zja (k j:κ) (y:V):∀ kvs:List (κ × V),valV (kvs.map λkv=>if kv.1=k then (kv.1,y) else kv) j=(valV kvs j).map λx=>if j=k then y else x
 | []=>rfl
 | p::r=>by
  have ih:=zja k j y r
  rw[zmc]
  by_cases h:p.1=k
  ·rw[if_pos h]
   by_cases e:p.1=j
   ·rw[zbs (p:=(p.1,y)) e,zbs e,Option.map_some,if_pos (e.symm.trans h)]
   ·rw[zbl (p:=(p.1,y)) e,zbl e,ih]
  ·rw[if_neg h]
   by_cases e:p.1=j
   ·rw[zbs (p:=p) e,zbs e,Option.map_some,if_neg (λz=>h (e.trans z))]
   ·rw[zbl (p:=p) e,zbl e,ih]
theorem zhl (k j:κ) (y:V):∀ kvs:List (κ × V),valV kvs k=none→valV (kvs++[(k,y)]) j=if j=k then some y else valV kvs j
 | [],_=>by
  by_cases e:k=j
  ·rw[if_pos e.symm];exact zbs (p:=(k,y)) e
  ·rw[if_neg (λz=>e z.symm)];exact zbl (p:=(k,y)) e
 | p::r,hn=>by
  rw[List.cons_append]
  have hk:¬ p.1=k:=λz=>by rw[zbs z] at hn;cases hn
  rw[zbl hk] at hn
  have ih:=zhl k j y r hn
  by_cases e:p.1=j
  ·rw[zbs e,zbs e,if_neg (λz=>hk (e.trans z))]
  ·rw[zbl e,zbl e,ih]
theorem zjb (kvs:List (κ × V)) (k j:κ) (y:V):valV (putK kvs k y) j=if j=k then some y else valV kvs j:=by
 unfold putK
 by_cases a:(kvs.any λkv=>decide (kv.1=k))=true
 ·rw[if_pos a,zja]
  rw[zcx] at a
  by_cases e:j=k
  ·obtain⟨x,hx⟩:=Option.isSome_iff_exists.mp a
   rw[if_pos e,e,hx,Option.map_some,if_pos rfl]
  ·rw[if_neg e]
   cases valV kvs j with
   | none=>rfl
   | some x=>rw[Option.map_some,if_neg e]
 ·rw[if_neg a]
  refine zhl k j y kvs ?_
  rw[zcx] at a
  cases q:valV kvs k with
  | none=>rfl
  | some x=>rw[q] at a;exact (a rfl).elim
theorem zdW (kvs:List (κ × V)) (k:κ) (v:V):(putK kvs k v).length≤kvs.length+1:=by
 unfold putK
 split
 ·rw[zlm];omega
 ·rw[List.length_append,List.length_cons,List.length_nil];omega
theorem zl6 {kvs:List (κ × V)}{k:κ}(v:V) (h:valV kvs k=none):putK kvs k v=kvs++[(k,v)]:=by
 unfold putK
 rw[zcx,h]
 exact if_neg (by decide)
theorem RelO.isSome_eq {o:Option V}{u:Option Value}(r:RelO o u):o.isSome=u.isSome:=by
 cases o with
 | none=>cases u with
  | none=>rfl
  | some _=>exact (show False from r).elim
 | some _=>cases u with
  | none=>exact (show False from r).elim
  | some _=>rfl
theorem KV.val {kvs:List (κ × V)}{vs:List (κ × Value)}(r:KV kvs vs) (k:κ):RelO (valV kvs k) (valueAt vs k):=by
 unfold KV at r
 induction r with
 | nil=>exact True.intro
 | @cons p q ps qs h t ih=>
  obtain⟨h1,h2⟩:=h
  by_cases e:p.1=k
  ·have e':q.1=k:=h1.symm.trans e
   have b:valueAt (q::qs) k=some q.2:=by simp[valueAt,List.find?_cons,e']
   rw[zbs e,b];exact h2
  ·have e':¬ q.1=k:=λz=>e (h1.trans z)
   have b:valueAt (q::qs) k=valueAt qs k:=by simp[valueAt,List.find?_cons,e']
   rw[zbl e,b];exact ih
theorem KV.any {kvs:List (κ × V)}{vs:List (κ × Value)}(r:KV kvs vs) (k:κ):(kvs.any λkv=>decide (kv.1=k))=vs.any λkv=>decide (kv.1=k):=by
 unfold KV at r
 induction r with
 | nil=>rfl
 | cons h t ih=>rw[List.any_cons,List.any_cons,ih,h.1]
theorem KV.repl {kvs:List (κ × V)}{vs:List (κ × Value)}(r:KV kvs vs) (k:κ) {y:V}{u:Value}(ry:RelV y u) :
  KV (kvs.map λkv=>if kv.1=k then (kv.1,y) else kv) (vs.map λkv=>if kv.1=k then (kv.1,u) else kv):=by
 unfold KV at r ⊢
 induction r with
 | nil=>exact .nil
 | @cons p q ps qs h t ih=>
  rw[zmc,zmc]
  refine .cons ?_ ih
  obtain⟨h1,h2⟩:=h
  by_cases e:p.1=k
  ·rw[if_pos e,if_pos (h1.symm.trans e)];exact⟨h1,ry⟩
  ·rw[if_neg e,if_neg (λz=>e (h1.trans z))];exact⟨h1,h2⟩
theorem KV.put {kvs:List (κ × V)}{vs:List (κ × Value)}(r:KV kvs vs) (k:κ) {y:V}{u:Value}(ry:RelV y u):KV (putK kvs k y) (stored vs k u):=by
 unfold putK stored
 rw[r.any k]
 by_cases e:(vs.any λkv=>decide (kv.1=k))=true
 ·rw[if_pos e,if_pos e];exact r.repl k ry
 ·rw[if_neg e,if_neg e];exact Paired.snoc r ⟨rfl,ry⟩
theorem KV.drop {kvs:List (κ × V)}{vs:List (κ × Value)}(r:KV kvs vs) (k:κ):KV (zdd kvs k) (without vs k):=by
 unfold KV at r ⊢
 unfold zdd without
 induction r with
 | nil=>exact .nil
 | @cons p q ps qs h t ih=>
  obtain⟨h1,h2⟩:=h
  rw[List.filter_cons,List.filter_cons]
  by_cases e:p.1=k
  ·have a:¬ decide (p.1≠k)=true:=by simp[e]
   have b:¬ decide (q.1≠k)=true:=by simp[h1.symm.trans e]
   rw[if_neg a,if_neg b];exact ih
  ·have e':¬ q.1=k:=λz=>e (h1.trans z)
   have a:decide (p.1≠k)=true:=by simp[e]
   have b:decide (q.1≠k)=true:=by simp[e']
   rw[if_pos a,if_pos b];exact .cons ⟨h1,h2⟩ ih
theorem KV.keys {kvs:List (κ × V)}{vs:List (κ × Value)}(r:KV kvs vs):kvs.map (·.1)=vs.map (·.1):=by
 unfold KV at r
 induction r with
 | nil=>rfl
 | cons h t ih=>rw[zmc,zmc,ih,h.1]
theorem KV.length {kvs:List (κ × V)}{vs:List (κ × Value)}(r:KV kvs vs):kvs.length=vs.length:=Paired.length r
theorem zjc (kvs:List (κ × V)) (k:κ):(zdd kvs k).length≤kvs.length:=List.length_filter_le _ _
end


theorem zgG {P:Program}{w:World}{k:Key}{u:Value}(r:RelV (kV k) u):(za9 P w).is k u=true:=by
 cases k with
 | inl i=>obtain⟨t,e⟩:=(show ∃ t,u=Value.int i t from r);subst e;exact zih P w i t
 | inr x=>obtain⟨t,e⟩:=(show ∃ t,u=Value.str x t from r);subst e;exact zii P w x t
theorem zhm {P:Program}{w:World} : ∀ {ks:List Key}{us:List Value},Vals (ks.map kV) us→ItemsAre (za9 P w) ks us
 | [],_,r=>by rw[List.map_nil] at r;cases r;exact .nil
 | k::ks,_,r=>by
  rw[zmc] at r
  cases r with
  | cons h t=>exact .cons (zgG h) (zhm t)
abbrev KT (H:Hp):List (List Key × V)→List (List Key × Addr × Value)→Prop:=Paired λp q=>p.1=q.1∧H q.2.1=some (.tup (p.1.map kV))∧RelV p.2 q.2.2
theorem KT.val {H:Hp}{kvs:List (List Key × V)}{xs:List (List Key × Addr × Value)}(r:KT H kvs xs) (k:List Key):RelO (valV kvs k) ((atKey xs k).map (·.2)):=by
 induction r with
 | nil=>exact True.intro
 | @cons p q ps qs h t ih=>
  obtain⟨h1,_,h2⟩:=h
  by_cases e:p.1=k
  ·have e':q.1=k:=h1.symm.trans e
   have b:atKey (q::qs) k=some q.2:=by simp[atKey,List.find?_cons,e']
   rw[zbs e,b];exact h2
  ·have e':¬ q.1=k:=λz=>e (h1.trans z)
   have b:atKey (q::qs) k=atKey qs k:=by simp[atKey,List.find?_cons,e']
   rw[zbl e,b];exact ih
theorem KT.repl {H:Hp}{kvs:List (List Key × V)}{xs:List (List Key × Addr × Value)}(r:KT H kvs xs) (k:List Key) {y:V}{u:Value}(ry:RelV y u) :
  KT H (kvs.map λkv=>if kv.1=k then (kv.1,y) else kv) (xs.map (putAt k u)):=by
 induction r with
 | nil=>exact .nil
 | @cons p q ps qs h t ih=>
  rw[zmc,zmc]
  refine .cons ?_ ih
  obtain⟨h1,h2,h3⟩:=h
  unfold putAt
  by_cases e:p.1=k
  ·rw[if_pos e,if_pos (h1.symm.trans e)];exact⟨h1,h2,ry⟩
  ·rw[if_neg e,if_neg (λz=>e (h1.trans z))];exact⟨h1,h2,h3⟩
theorem KT.put {H:Hp}{kvs:List (List Key × V)}{xs:List (List Key × Addr × Value)}(r:KT H kvs xs) (k:List Key) {b:Addr}{y:V}{u:Value}(hb:H b=some (.tup (k.map kV))) (ry:RelV y u) :
  KT H (putK kvs k y) (storedH xs k b u):=by
 have e:(kvs.any λkv=>decide (kv.1=k))=(atKey xs k).isSome:=by
  rw[zcx,(r.val k).isSome_eq,Option.isSome_map]
 unfold putK storedH
 rw[e]
 by_cases q:(atKey xs k).isSome=true
 ·rw[if_pos q,if_pos q];exact r.repl k ry
 ·rw[if_neg q,if_neg q];exact Paired.snoc r ⟨rfl,hb,ry⟩
theorem KT.keeps {H H':Hp}{kvs:List (List Key × V)}{xs:List (List Key × Addr × Value)}(r:KT H kvs xs) (ht:∀ b ys,H b=some (.tup ys)→H' b=some (.tup ys)):KT H' kvs xs:=
 Paired.mapP r λ_ _ z=>⟨z.1,ht _ _ z.2.1,z.2.2⟩
section
variable {P : Program} {w : World} {H : Hp} {h : Heap} {a : Addr}
theorem zo8 {u:HO}(ok:HOk P w H h) (e:Rd H a u):zbr P w H h a u:=e.ok ok
theorem zjR {kvs:List (Key × V)}(ok:HOk P w H h) (e:Rd H a (.dK kvs)):kvs.length≤sizeLine∧(a == sysModules)=false∧∃ vs,KV kvs vs∧h.DictOf (za9 P w) a vs:=
 show zbr P w H h a (.dK kvs) from zo8 ok e
theorem zir {kvs:List (Key × V)}(ok:HOk P w H h) (e:H a=some (.dK kvs)):kvs.length≤sizeLine∧(a == sysModules)=false∧∃ vs,KV kvs vs∧h.DictOf (za9 P w) a vs:=zjR ok (.inl e)
theorem zhn {ks:List Key}(ok:HOk P w H h) (e:H a=some (.tup (ks.map kV))):(tupleKind (za9 P w)).is h ks a:=by
 obtain⟨_,its,r,o,h1,h2,n,h3⟩:=(show zbr P w H h a (.tup (ks.map kV)) from ok a _ e)
 exact⟨o,its.toArray,n,h1,h2,h3,by simpa using zhm r⟩
theorem zjS {kvs:List (List Key × V)}(ok:HOk P w H h) (e:Rd H a (.dT kvs)):kvs.length≤sizeLine∧(a == sysModules)=false∧
  ∃ xs,KT H kvs xs∧h.DictOfH (tupleKind (za9 P w)) a xs:=by
 obtain⟨z,y,xs,r,o,es,ep,h1,h2,h3,h4,h5⟩:=(show zbr P w H h a (.dT kvs) from zo8 ok e)
 refine⟨z,y,xs,r,o,es,ep,h1,h2,h3,h4,λx hx=>?_,h5⟩
 have all:∀ {l:List (List Key × V)}{m:List (List Key × Addr × Value)},KT H l m→∀ x∈m,(tupleKind (za9 P w)).is h x.1 x.2.1:=by
  intro l m q
  induction q with
  | nil=>intro x hx;exact nomatch hx
  | @cons p q ps qs hq t ih=>
   intro x hx
   rcases List.mem_cons.mp hx with e | hx
   ·subst e
    exact zhn ok (by rw[←hq.1];exact hq.2.1)
   ·exact ih x hx
 exact all r x hx
theorem dt_of {kvs:List (List Key × V)}(ok:HOk P w H h) (e:H a=some (.dT kvs)):kvs.length≤sizeLine∧(a == sysModules)=false∧
  ∃ xs,KT H kvs xs∧h.DictOfH (tupleKind (za9 P w)) a xs:=zjS ok (.inl e)
end

def DGet (H:Hp) (a:Addr) (y:V) (r:Option V):Prop:=
 (∃ kvs k,Rd H a (.dK kvs)∧y=kV k∧r=valV kvs k)∨∃ kvs k b,Rd H a (.dT kvs)∧y=.ref b∧H b=some (.tup (k.map kV))∧r=valV kvs k
def DPut (H:Hp) (a:Addr) (y v:V) (H':Hp):Prop:=
 (∃ kvs k,H a=some (.dK kvs)∧y=kV k∧kvs.length<sizeLine∧H'=upd H a (.dK (putK kvs k v)))∨
 ∃ kvs k b,H a=some (.dT kvs)∧y=.ref b∧H b=some (.tup (k.map kV))∧kvs.length<sizeLine∧H'=upd H a (.dT (putK kvs k v))
theorem DGet.k {H:Hp}{a:Addr}{kvs:List (Key × V)}{k:Key}(e:H a=some (.dK kvs)):DGet H a (kV k) (valV kvs k):=.inl ⟨kvs,k,.inl e,rfl,rfl⟩
theorem DPut.k {H:Hp}{a:Addr}{kvs:List (Key × V)}{k:Key}{v:V}(e:H a=some (.dK kvs)) (hl:kvs.length<sizeLine):DPut H a (kV k) v (upd H a (.dK (putK kvs k v))):=.inl ⟨kvs,k,e,rfl,hl,rfl⟩
section
variable {X : Cx} {pins : List (Addr × Obj)} {σ : St} {H : Hp} {s : Shared} {a : Addr} {y v : V} {u r : Value} {o : Option V} {A : Around} {E : Value → Shared → Prop}

theorem Inv.big (I:Inv X pins σ H s):sysModules<s.heap.objs.size:=by
 have h:mainGlobals<s.heap.objs.size:=(I.mod.glob.keeps I.bk).lt
 exact Nat.lt_trans (by decide) h
theorem zkR {Q:Value→Shared→Prop}(hu:A.units+1<cLine) (I:Inv X pins σ H s) (g:DGet H a y (some v)) (ry:RelV y u) (h:∀ w' s',Inv X pins σ H s'→RelV v w'→Q w' s') :
  wpAny (model X.prog X.w) A (getItem (.ref a) u) Q E s:=by
 rcases g with ⟨kvs,k,e,ey,l⟩ | ⟨kvs,k,b,e,ey,eb,l⟩
 ·subst ey
  obtain⟨z,hd,vs,rel,dd⟩:=zjR I.hok e
  obtain⟨w',hw,rw'⟩:=RelO.some_of (v:=v) (o:=valueAt vs k) (by rw[l];exact rel.val k)
  exact wpAny_getItem_of (zgG ry) dd.mapOf hw (h w' _ (I.tok _) rw')
 ·subst ey
  cases (show u=Value.ref b from ry)
  obtain⟨z,hd,xs,rel,dd⟩:=zjS I.hok e
  obtain⟨w',hw,rw'⟩:=RelO.some_of (v:=v) (o:=(atKey xs k).map (·.2)) (by rw[l];exact rel.val k)
  obtain⟨p,hp,hp2⟩:=zme.mp hw
  refine wpAny_getItem_heap (tupleKind_room_in1 hu) (zhn I.hok eb) dd hp ?_
  rw[hp2]
  exact h w' _ (I.tok _) rw'
theorem d_in {Q:Value→Shared→Prop}(hu:A.units+1<cLine) (I:Inv X pins σ H s) (g:DGet H a y o) (ry:RelV y u) (h:∀ s',Inv X pins σ H s'→Q (.bool o.isSome) s') :
  wpAny (model X.prog X.w) A (compareOp .In u (.ref a)) Q E s:=by
 rcases g with ⟨kvs,k,e,ey,l⟩ | ⟨kvs,k,b,e,ey,eb,l⟩
 ·subst ey
  obtain⟨z,hd,vs,rel,dd⟩:=zjR I.hok e
  refine wpAny_in_of (zgG ry) hd dd.mapOf ?_
  rw[←(rel.val k).isSome_eq,←l]
  exact h _ (I.tok _)
 ·subst ey
  cases (show u=Value.ref b from ry)
  obtain⟨z,hd,xs,rel,dd⟩:=zjS I.hok e
  refine wpAny_in_heap (tupleKind_room_in1 hu) (zhn I.hok eb) hd dd ?_
  have q:=(rel.val k).isSome_eq
  rw[Option.isSome_map] at q
  rw[←q,←l]
  exact h _ (I.tok _)
theorem znN {Q:Value→Shared→Prop}(hu:A.units+1<cLine) (I:Inv X pins σ H s) (g:DGet H a y o) (ry:RelV y u) (h:∀ s',Inv X pins σ H s'→Q (.bool (!o.isSome)) s') :
  wpAny (model X.prog X.w) A (compareOp .NotIn u (.ref a)) Q E s:=by
 rcases g with ⟨kvs,k,e,ey,l⟩ | ⟨kvs,k,b,e,ey,eb,l⟩
 ·subst ey
  obtain⟨z,hd,vs,rel,dd⟩:=zjR I.hok e
  refine wpAny_notIn_of (zgG ry) hd dd.mapOf ?_
  rw[←(rel.val k).isSome_eq,←l]
  exact h _ (I.tok _)
 ·subst ey
  cases (show u=Value.ref b from ry)
  obtain⟨z,hd,xs,rel,dd⟩:=zjS I.hok e
  refine wpAny_notIn_heap (tupleKind_room_in1 hu) (zhn I.hok eb) hd dd ?_
  have q:=(rel.val k).isSome_eq
  rw[Option.isSome_map] at q
  rw[←q,←l]
  exact h _ (I.tok _)
theorem zfg {h':Heap}{t':Nat}{ob:HO}(I:Inv X pins σ H s) (mu:Mut (H a)) (hs:Heap.SameBut a s.heap h') (he:∃ q,h'.get? a=some q) (new:zbr X.prog X.w (upd H a ob) h' a ob) :
  Inv X pins σ (upd H a ob) {s with heap:=h',toks:=t'}:=
 I.write (x:=a) (e:=a) mu (.inl rfl) (λb q hb z=>(hs.2 b hb).trans z) he new
theorem zjd {P:Program}{w:World}{H':Hp}{h':Heap}{kvs:List (Key × V)}{vs:List (Key × Value)}(z:kvs.length≤sizeLine) (hd:(a == sysModules)=false) (rel:KV kvs vs) (dd:h'.DictOf (za9 P w) a vs) :
  zbr P w H' h' a (.dK kvs):=⟨z,hd,vs,rel,dd⟩
theorem zkS {H':Hp}{Q:Unit→Shared→Prop}(hu:A.units+1<cLine) (I:Inv X pins σ H s) (g:DPut H a y v H') (ry:RelV y u) (rv:RelV v r) (h:∀ s',Inv X pins σ H' s'→Q () s') :
  wpAny (model X.prog X.w) A (setItem (.ref a) u r) Q E s:=by
 rcases g with ⟨kvs,k,e,ey,l,eH⟩ | ⟨kvs,k,b,e,ey,eb,l,eH⟩
 ·subst ey eH
  obtain⟨z,hd,vs,rel,dd⟩:=zir I.hok e
  have hz:vs.length≤sizeLine:=by rw[←rel.length];exact z
  have hl:(putK kvs k v).length≤sizeLine:=by have:=zdW kvs k v;omega
  refine wpAny_setItem_pairs (hsz:=hz) (zgG ry) dd λh' dd' hs=>h _ ?_
  have he:∃ q,h'.get? a=some q:=let ⟨q,_,_,hq,_⟩:=dd';⟨q,hq⟩
  exact zfg I (by rw[e];exact True.intro) hs he (zjd hl hd (rel.put k rv) dd')
 ·subst ey eH
  cases (show u=Value.ref b from ry)
  obtain⟨z,hd,xs,rel,dd⟩:=dt_of I.hok e
  have hz:xs.length≤sizeLine:=by rw[←Paired.length rel];exact z
  have hl:(putK kvs k v).length≤sizeLine:=by have:=zdW kvs k v;omega
  refine wpAny_setItem_heap (hsz:=hz) (tupleKind_room_in1 hu) (zhn I.hok eb) dd λh' dd' hs=>h _ ?_
  obtain⟨q,es,ep,hq,h2,h3,h4,_,h5⟩:=dd'
  refine zfg I (by rw[e];exact True.intro) hs ⟨q,hq⟩ ⟨hl,hd,_,(rel.put k eb rv).keeps λc ys ec=>?_,q,es,ep,hq,h2,h3,h4,h5⟩
  rw[zaj (zlR ec e (λz=>nomatch z))]
  exact ec
end

section
variable {X : Cx} {pins : List (Addr × Obj)} {σ : St} {H : Hp} {s : Shared} {a : Addr} {kvs : List (Key × V)} {k : Key} {u : Value} {A : Around} {E : Value → Shared → Prop}
theorem zo9 {Q:Unit→Shared→Prop}(I:Inv X pins σ H s) (e:H a=some (.dK kvs)) (ry:RelV (kV k) u) (l:(valV kvs k).isSome=true) (h:∀ s',Inv X pins σ (upd H a (.dK (zdd kvs k))) s'→Q () s') :
  wpAny (model X.prog X.w) A (delItem (.ref a) u) Q E s:=by
 obtain⟨z,hd,vs,rel,dd⟩:=zir I.hok e
 refine wpAny_delItem_slot dd.typeIs (by decide) PySem.F.slot_dict_delitem
  (call_meetsIn PySem.F.slot_dict_delitem dd.typeIs PySem.F.entry_dict_delitem (PySem.F.args_dict_delitem_2 _ _) (meets_dict_delitem_pairs (za9 X.prog X.w) a (zgG ry)) ⟨vs,dd,by rw[←rel.length];exact z,by rw[←(rel.val k).isSome_eq];exact l,λh' dd' hs=>h _ ?_⟩)
 have he:∃ q,h'.get? a=some q:=let ⟨q,_,_,hq,_⟩:=dd';⟨q,hq⟩
 exact zfg I (by rw[e];exact True.intro) hs he (zjd (Nat.le_trans (zjc kvs k) z) hd (rel.drop k) dd')
theorem d_pop {v:V}{more:List Value}{Q:Value→Shared→Prop}(I:Inv X pins σ H s) (e:H a=some (.dK kvs)) (ry:RelV (kV k) u) (l:valV kvs k=some v) (hm:more=[]∨∃ x,more=[x])
  (h:∀ w' s',Inv X pins σ (upd H a (.dK (zdd kvs k))) s'→RelV v w'→Q w' s'):wpAny (model X.prog X.w) A (call (.builtin "dict.pop") (.ref a::u::more)) Q E s:=by
 obtain⟨z,hd,vs,rel,dd⟩:=zir I.hok e
 obtain⟨w',hw,rw'⟩:=RelO.some_of (v:=v) (o:=valueAt vs k) (by rw[←l];exact rel.val k)
 have hp:(keyPart u).isSome=true:=by
  cases k with
  | inl i=>obtain⟨t,q⟩:=(show ∃ t,u=Value.int i t from ry);subst q;rfl
  | inr x=>obtain⟨t,q⟩:=(show ∃ t,u=Value.str x t from ry);subst q;rfl
 have ha:argsOk "dict.pop" ⟨.ref a::u::more,[]⟩:=by
  rcases hm with q | ⟨x,q⟩
  ·subst q;exact PySem.F.args_dict_pop_2 _ _
  ·subst q;exact PySem.F.args_dict_pop_3 _ _ _
 refine call_meetsIn PySem.F.slot_dict_pop dd.typeIs PySem.F.entry_dict_pop ha (meets_dict_pop_there (za9 X.prog X.w) a (zgG ry) more hm hp)
  ⟨vs,w',dd,by rw[←rel.length];exact z,hw,λh' dd' hs=>h w' _ ?_ rw'⟩
 have he:∃ q,h'.get? a=some q:=let ⟨q,_,_,hq,_⟩:=dd';⟨q,hq⟩
 exact zfg I (by rw[e];exact True.intro) hs he (zjd (Nat.le_trans (zjc kvs k) z) hd (rel.drop k) dd')
theorem zpa {r:Value}{Q:Value→Shared→Prop}(I:Inv X pins σ H s) (e:H a=some (.dK kvs)) (ry:RelV (kV k) u) (l:valV kvs k=none) (h:∀ s',Inv X pins σ H s'→Q r s') :
  wpAny (model X.prog X.w) A (call (.builtin "dict.pop") [.ref a,u,r]) Q E s:=by
 obtain⟨z,hd,vs,rel,dd⟩:=zir I.hok e
 have hn:valueAt vs k=none:=RelO.none_of (by rw[←l];exact rel.val k)
 have hp:(keyPart u).isSome=true:=by
  cases k with
  | inl i=>obtain⟨t,q⟩:=(show ∃ t,u=Value.int i t from ry);subst q;rfl
  | inr x=>obtain⟨t,q⟩:=(show ∃ t,u=Value.str x t from ry);subst q;rfl
 exact call_meetsIn PySem.F.slot_dict_pop dd.typeIs PySem.F.entry_dict_pop (PySem.F.args_dict_pop_3 _ _ _) (meets_dict_pop_default (za9 X.prog X.w) a (zgG ry) hd hp r) ⟨vs,dd,hn,h _ (I.tok _)⟩
end


def NoSl (i:Expr):Prop:=∀ ov iv,subscripted i false ov iv=operate [ov,iv] (getItem ov iv)
theorem znO {prog:Program}{w:World}{A:Around}{E:Value→Shared→Prop}{s:Shared}{env:Env}{value slice:Expr}{pos:Pos}{T id:String}{Q:Value→Shared→Prop}
  (hl:typeLookup (.type T) "__getitem__"=pure (some (.builtin id))) (hs:NoSl slice)
  (h:wpAny (model prog w) A (eval value env) (λo s₁=>wpAny (model prog w) A (eval slice env) (λi s₂=>s₂.TypeIs o T∧wpAny (model prog w) A (getItem o i) Q E s₂) E s₁) E s) :
  wpAny (model prog w) A (eval (.Subscript value slice pos) env) Q E s:=by
 refine Subscript_ (wpAny_mono h (λo s₁ h₁=>wpAny_mono h₁ (λi s₂ h₂=>?_) λ_ _ x=>x) λ_ _ x=>x)
 obtain⟨hT,h₂⟩:=h₂
 unfold subscriptTail
 refine wpAny_bind ?_
 rw[getitemInPython_of_ne hT.not_modules]
 refine wpAny_bind (wpAny_specialOf hT hl ?_)
 have fin:wpAny (model prog w) A (subscripted slice false o i) (λr s₃=>wpAny (model prog w) A (letTemporaryGo value o r >>= λ_=>pure r) Q E s₃) E s₂:=by
  rw[hs o i]
  exact wpAny_operating (wpAny_mono h₂ (λr s₃ h₃=>wpAny_bind (wpAny_letTemporaryGo (wpAny_pure h₃))) λ_ _ x=>x)
 first
  | exact wpAny_pure (wpAny_bind fin)
  | exact wpAny_bind (wpAny_pure (wpAny_bind fin))
  | exact wpAny_bind fin
theorem zis {X:Cx}{pins:List (Addr × Obj)}{σ:St}{H:Hp}{s:Shared}{a:Addr}{y:V}{o:Option V}(I:Inv X pins σ H s) (g:DGet H a y o):s.TypeIs (.ref a) "dict":=by
 rcases g with ⟨kvs,k,e,_,_⟩ | ⟨kvs,k,b,e,_,_,_⟩
 ·obtain⟨_,_,vs,_,dd⟩:=zjR I.hok e
  exact dd.typeIs
 ·obtain⟨_,_,xs,_,dd⟩:=zjS I.hok e
  exact dd.typeIs
def zpb (td ty:TE):TE:=λσ H Q=>td σ H λx H1=>ty σ H1 λy H2=>∃ a v,x=.ref a∧DGet H2 a y (some v)∧Q v H2
def tDIn (ty td:TE):TE:=λσ H Q=>ty σ H λy H1=>td σ H1 λx H2=>∃ a o,x=.ref a∧DGet H2 a y o∧Q (.bl o.isSome) H2
def zkT (ty td:TE):TE:=λσ H Q=>ty σ H λy H1=>td σ H1 λx H2=>∃ a o,x=.ref a∧DGet H2 a y o∧Q (.bl (!o.isSome)) H2
def zpc (td ty tv:TE):TS:=λD σ H=>tv σ H λv H1=>td σ H1 λx H2=>ty σ H2 λy H3=>∃ a H4,x=.ref a∧DPut H3 a y v H4∧D.nx σ H4
section
variable {X : Cx} {o i e value : Expr} {pos pos' tpos : Pos} {td ty tv : TE}
theorem zcH (hu:X.A.units+1<cLine) (ho:PE X o td) (hi:PE X i ty) (hs:NoSl i):PE X (.Subscript o i pos) (zpb td ty):=by
 intro pins s σ H Q I h
 refine znO PySem.F.slot_dict_getitem.lookup hs (thn (ho pins s σ H _ I h) λu s1 ⟨x,H1,I1,rx,q1⟩=>thn (hi pins s1 σ H1 _ I1 q1) λiv s2 ⟨y,H2,I2,ry,a,v,ex,g,q2⟩=>?_)
 subst ex
 obtain rfl:u=Value.ref a:=rx
 exact⟨zis I2 g,zkR hu I2 g ry λw' s3 I3 rw'=>⟨v,H2,I3,rw',q2⟩⟩
theorem zm6 (hu:X.A.units+1<cLine) (hi:PE X i ty) (ho:PE X o td):PC X .In i o (tDIn ty td):=by
 intro pins s σ H Q I h
 refine thn (hi pins s σ H _ I h) λiv s1 ⟨y,H1,I1,ry,q1⟩=>thn (ho pins s1 σ H1 _ I1 q1) λu s2 ⟨x,H2,I2,rx,a,ov,ex,g,q2⟩=>?_
 subst ex
 obtain rfl:u=Value.ref a:=rx
 exact d_in hu I2 g ry λs3 I3=>⟨.bl ov.isSome,H2,I3,rfl,q2⟩
theorem zfh (hu:X.A.units+1<cLine) (hi:PE X i ty) (ho:PE X o td):PC X .NotIn i o (zkT ty td):=by
 intro pins s σ H Q I h
 refine thn (hi pins s σ H _ I h) λiv s1 ⟨y,H1,I1,ry,q1⟩=>thn (ho pins s1 σ H1 _ I1 q1) λu s2 ⟨x,H2,I2,rx,a,ov,ex,g,q2⟩=>?_
 subst ex
 obtain rfl:u=Value.ref a:=rx
 exact znN hu I2 g ry λs3 I3=>⟨.bl (!ov.isSome),H2,I3,rfl,q2⟩
theorem zkU (hu:X.A.units+1<cLine) (ho:PE X o td) (hi:PE X i ty) (hv:PE X value tv) (hs:swapsWith value (some (.Subscript o i pos')) pos.line X.env=pure false) :
  PS X (.Assign [.Subscript o i pos'] value pos) (zpc td ty tv):=by
 intro pins s σ H D I h
 refine wpAny_Assign_Subscript (thn (hv pins s σ H _ I h) λr s1 ⟨v,H1,I1,rv,q1⟩=>thn (ho pins s1 σ H1 _ I1 q1) λu s2 ⟨x,H2,I2,rx,q2⟩=>thn (hi pins s2 σ H2 _ I2 q2) λiv s3 ⟨y,H3,I3,ry,a,H4,ex,g,q3⟩=>?_) hs
 subst ex
 obtain rfl:u=Value.ref a:=rx
 exact zkS hu I3 g ry rv λs4 I4=>⟨σ,H4,I4,q3⟩
end


theorem zje {P:Program}{w:World}{H:Hp}(h:Heap) (hb:sysModules<h.objs.size):zbr P w H (h.push {cls:=.type "dict",data:=.dict #[]}) h.objs.size (.dK []):=
 ⟨Nat.zero_le _,beq_eq_false_iff_ne.mpr (Ne.symm (Nat.ne_of_lt hb)),[],.nil,Heap.DictOf.new h⟩
def zm7:TE:=λ_ H Q=>∀ p,H p=none→Q (.ref p) (upd H p (.dK []))
section
variable {X : Cx} {pos : Pos}
theorem zgH:PE X (.Dict [] [] pos) zm7:=λpins s σ H Q I h=>
 wpAny_Dict_empty ⟨.ref s.heap.objs.size,_,I.laid (a:=s.heap.objs.size) (o:=.dK []) (t':=s.toks) (λ_ _ q=>Heap.get?_push_of_some _ q) (Nat.le_refl _) (zje s.heap I.big),rfl,h _ (I.hok.fresh (Nat.le_refl _))⟩
end

def zfi:List (TE × TE)→St→Hp→(List (V × V)→Hp→Prop)→Prop
 | [],_,H,Q=>Q [] H
 | (tk,tv)::r,σ,H,Q=>tk σ H λx H1=>tv σ H1 λy H2=>zfi r σ H2 λps H3=>Q ((x,y)::ps) H3
abbrev VV:List (V × V)→List (Value × Value)→Prop:=Paired λp q=>RelV p.1 q.1∧RelV p.2 q.2
def PPs (X:Cx) (pos:Pos) (keys:List (Option Expr)) (values:List Expr) (trs:List (TE × TE)):Prop:=
 ∀ (pins:List (Addr × Obj)) (s:Shared) (σ:St) (H:Hp) (Q:List (V × V)→Hp→Prop),Inv X pins σ H s→zfi trs σ H Q→
  wpAny (model X.prog X.w) X.A (evalPairs (pairTrees keys values X.env pos)) (λvs s'=>∃ ps H',Inv X pins σ H' s'∧VV ps vs∧Q ps H') X.xe s
theorem znP {X:Cx}{pos:Pos} : PPs X pos [] [] []:=λpins s σ H Q I h=>pairTrees_nil_walk ⟨[],H,I,.nil,h⟩
theorem zl7 {X:Cx}{pos:Pos}{k v:Expr}{ks:List (Option Expr)}{vs:List Expr}{tk tv:TE}{trs:List (TE × TE)}(hk:PE X k tk) (hv:PE X v tv) (hr:PPs X pos ks vs trs) :
  PPs X pos (some k::ks) (v::vs) ((tk,tv)::trs):=λpins s σ H Q I h=>
 pairTrees_cons_walk (thn (hk pins s σ H _ I h) λu s1 ⟨x,H1,I1,rx,q1⟩=>thn (hv pins s1 σ H1 _ I1 q1) λw2 s2 ⟨y,H2,I2,ry,q2⟩=>
  thn (hr pins s2 σ H2 _ I2 q2) λws s3 ⟨ps,H3,I3,rel,q3⟩=>⟨(x,y)::ps,H3,I3,.cons ⟨rx,ry⟩ rel,q3⟩)
def zd7 (kvs more:List (Key × V)):List (Key × V):=more.foldl (λacc kv=>putK acc kv.1 kv.2) kvs
theorem KV.merge:∀ {more:List (Key × V)}{rs:List (Key × Value)}{kvs:List (Key × V)}{vs:List (Key × Value)},KV more rs→KV kvs vs→KV (zd7 kvs more) (merged vs rs):=by
 intro more rs kvs vs r
 unfold KV at r
 induction r generalizing kvs vs with
 | nil=>intro q;exact q
 | @cons p q ps qs h t ih=>
  intro r0
  have e:KV (putK kvs p.1 p.2) (stored vs q.1 q.2):=by
   have:=r0.put p.1 h.2
   rw[←h.1];exact this
  exact ih e
theorem zd8:∀ (more kvs:List (Key × V)),(zd7 kvs more).length≤kvs.length+more.length
 | [],kvs=>by show kvs.length≤kvs.length+0;omega
 | p::r,kvs=>by
  have h1:=zd8 r (putK kvs p.1 p.2)
  have h2:=zdW kvs p.1 p.2
  show (zd7 (putK kvs p.1 p.2) r).length≤_
  rw[List.length_cons];omega
theorem zgk {P:Program}{w:World} : ∀ {kvs:List (Key × V)}{ws:List (Value × Value)},VV (kvs.map λkv=>(kV kv.1,kv.2)) ws→∃ rs,Carries (za9 P w) ws rs∧KV kvs rs
 | [],_,r=>by rw[List.map_nil] at r;cases r;exact⟨[],True.intro,.nil⟩
 | p::kvs,_,r=>by
  rw[zmc] at r
  cases r with
  | @cons a b as bs h t=>
   obtain⟨rs,c,q⟩:=zgk (P:=P) (w:=w) t
   obtain⟨b1,b2⟩:=b
   exact⟨(p.1,b2)::rs,⟨zgG h.1,rfl,c⟩,.cons ⟨rfl,h.2⟩ q⟩
def zpd (trs:List (TE × TE)):TE:=λσ H Q=>∀ p,H p=none→zfi trs σ (upd H p (.dK [])) λps H2=>H2 p=some (.dK [])∧∃ kvs:List (Key × V),ps=kvs.map (λkv=>(kV kv.1,kv.2))∧kvs.length≤15∧Q (.ref p) (upd H2 p (.dK (zd7 [] kvs)))
theorem znQ {X:Cx}{pos:Pos}{keys:List (Option Expr)}{values:List Expr}{trs:List (TE × TE)}(h:PPs X pos keys values trs) (hall:keys.all (·.isSome)=true) (hl:keys.length=values.length) (h0:keys≠[])
  (h15:keys.length≤15):PE X (.Dict keys values pos) (zpd trs):=by
 intro pins s σ H Q I q
 have hn:=I.hok.fresh (Nat.le_refl s.heap.objs.size)
 have I1:=I.laid (a:=s.heap.objs.size) (o:=.dK []) (h':=s.heap.push {cls:=.type "dict",data:=.dict #[]}) (t':=s.toks) (λ_ _ q=>Heap.get?_push_of_some _ q) (Nat.le_refl _) (zje s.heap I.big)
 refine wpAny_Dict_walk (knd:=za9 X.prog X.w) hall hl h0 h15 (thn (h pins _ σ _ _ I1 (q _ hn)) λws s2 ⟨ps,H2,I2,rel,e,kvs,ep,lk,q2⟩=>?_)
 subst ep
 obtain⟨rs,c,rk⟩:=zgk (P:=X.prog) (w:=X.w) rel
 obtain⟨z,hd,vs0,r0,dd⟩:=zir I2.hok e
 cases r0
 refine⟨rs,c,dd,λh' dd' hs=>⟨.ref s.heap.objs.size,_,?_,rfl,q2⟩⟩
 have hz:(zd7 [] kvs).length≤sizeLine:=by
  have h1:=zd8 kvs []
  rw[List.length_nil] at h1
  rw[sizeLine_eq];omega
 have he:∃ q,h'.get? s.heap.objs.size=some q:=let ⟨q,_,_,hq,_⟩:=dd';⟨q,hq⟩
 exact zfg I2 (by rw[e];exact True.intro) hs he (zjd hz hd (rk.merge .nil) dd')
structure M2 (X:Cx) (o:Expr) (m:Str) (apos:Pos) (e f:Expr) (cpos:Pos):Prop where
 base:attributeBase o m X.env (eval o X.env)=eval o X.env
 few:((backTo cpos (starEach [e,f] X.env)).all (λx=>!x.1) && (backToKw cpos (keywordEach [] X.env)).all (λx=>x.1.isSome)
  && decide (([e,f]:List Expr).length+([]:List Keyword).length+(if ([]:List Keyword).isEmpty then 0 else 1)<30))=true
 line:(apos.endLine == cpos.line)=true
 trees:backTo cpos (starEach [e,f] X.env)=[(false,eval e X.env),(false,eval f X.env)]
def IsD (H:Hp) (a:Addr):Prop:=(∃ kvs,Rd H a (.dK kvs))∨∃ kvs,Rd H a (.dT kvs)
theorem zpe {X:Cx}{pins:List (Addr × Obj)}{σ:St}{H:Hp}{s:Shared}{a:Addr}(I:Inv X pins σ H s) (d:IsD H a) :
  s.TypeIs (.ref a) "dict" ∧(∀ b,Value.ref a=.ref b→∃ ob,s.heap.get? b=some ob∧ob.dict=none)∧(a == sysModules)=false:=by
 rcases d with ⟨kvs,e⟩ | ⟨kvs,e⟩
 ·obtain⟨_,hd,vs,_,dd⟩:=zjR I.hok e
  refine⟨dd.typeIs,λb q=>?_,hd⟩
  cases q
  obtain⟨ob,_,_,h1,h2,_⟩:=dd
  exact⟨ob,h1,h2.2.1⟩
 ·obtain⟨_,hd,xs,_,dd⟩:=zjS I.hok e
  refine⟨dd.typeIs,λb q=>?_,hd⟩
  cases q
  obtain⟨ob,_,_,h1,h2,_⟩:=dd
  exact⟨ob,h1,h2.2.1⟩
section
variable {X : Cx} {pins : List (Addr × Obj)} {σ : St} {H : Hp} {s : Shared} {a : Addr} {y d : V} {u r : Value} {o : Option V} {A : Around} {E : Value → Shared → Prop}
end

def zm8 (td ty tx:TE):TE:=λσ H Q=>td σ H λx H1=>∃ a,x=.ref a∧IsD H1 a∧ty σ H1 λy H2=>tx σ H2 λz H3=>∃ kvs k,H3 a=some (.dK kvs)∧y=kV k∧
 (∀ v,valV kvs k=some v→Q v (upd H3 a (.dK (zdd kvs k))))∧(valV kvs k=none→Q z H3)
section
variable {X : Cx} {o e f : Expr} {apos cpos : Pos} {td ty tx : TE}
theorem zl8 (ho:PE X o td) (he:PE X e ty) (hf:PE X f tx) (m:M2 X o "pop" apos e f cpos):PE X (.Call (.Attribute o "pop" apos) [e,f] [] cpos) (zm8 td ty tx):=by
 intro pins s σ H Q I h
 refine wpAny_Call_method m.base m.few m.line PySem.F.plainAttrs_dict PySem.F.slot_dict_pop PySem.F.type_dict_pop (thn (ho pins s σ H _ I h) λu s1 ⟨x,H1,I1,rx,a,ex,d,q1⟩=>?_)
 subst ex
 obtain rfl:u=Value.ref a:=rx
 obtain⟨t1,t2,_⟩:=zpe I1 d
 refine⟨t1,t2,?_⟩
 rw[m.trees]
 refine Calls.callWith_builtin rfl (Calls.evalArgs_plain (Calls.spliced_cons (thn (he pins s1 σ H1 _ I1 q1) λiv s2 ⟨y,H2,I2,ry,q2⟩=>
  Calls.spliced_cons (thn (hf pins s2 σ H2 _ I2 q2) λfv s3 ⟨z,H3,I3,rz,kvs,k,ea,ey,q3,q4⟩=>Calls.spliced_nil ?_))))
 subst ey
 cases l:valV kvs k with
 | some v=>exact d_pop I3 ea ry l (.inr ⟨fv,rfl⟩) λw' s4 I4 rw'=>⟨v,_,I4,rw',q3 v l⟩
 | none=>exact zpa I3 ea ry l λs4 I4=>⟨z,H3,I4,rz,q4 l⟩
end

section
variable {X : Cx} {pins : List (Addr × Obj)} {σ : St} {H : Hp} {s : Shared} {a : Addr} {kvs : List (Key × V)} {A : Around} {E : Value → Shared → Prop}
end


section
variable {X : Cx} {pins : List (Addr × Obj)} {σ : St} {H : Hp} {s : Shared} {a : Addr} {y : V} {u : Value} {A : Around} {E : Value → Shared → Prop}
end
end L2

namespace Att
open PySem PySem.W PySem.Calls PyProof.Rows

theorem zfj {P:Params}{h:Heap} : ∀ (ns:List Int) (vs:List Value),WellAll P h vs (ns.map WData.int)→IntsAre vs ns:=by
 intro ns
 induction ns with
 | nil=>
  intro vs w
  rw[List.map_nil] at w
  cases w
  exact .nil
 | cons n ns ih=>
  intro vs w
  rw[zmc] at w
  cases w with
  | cons a b=>
   cases a
   exact .cons _ _ (ih _ b)
theorem zkV {l:OpenLaw}{n:Nat}(hn:l.most=some n) {P:Params}{h:Heap}{args:List WData}{vals:List Value}
  (hpre:l.row.toRowW.claim.pre args=true) (hwl:WellAll P h vals args) :
  ∃ a vs ns,vals=[Value.ref a]∧args=[WData.list (ns.map WData.int)]∧h.get? a=some {cls:=.type "list",data:=.seq vs.toArray}∧IntsAre vs ns∧ns.length≤n:=by
 have hsh:WShape.hasAll [] args [.list .int]=true:=(pre_splitW hpre).1
 have hc:l.pre.holds [] {args:=args}=true:=(pre_splitW hpre).2
 obtain⟨d,r,rfl,h1,h2⟩:=hasAllW_cons hsh
 obtain rfl:=hasAllW_nil h2
 obtain⟨xs,rfl,h3⟩:=hasW_list h1
 obtain⟨ns,rfl⟩:=items_int h3
 have hlen:ns.length≤n:=by
  unfold OpenLaw.pre at hc
  have h4:(WTm.not (.lt (.lit (.int (n:Int))) (.len (.arg 0)))).holds [] {args:=[.list (ns.map .int)]}=true:=by
   have h4:=(holds_andW hc).1
   rw[hn] at h4
   exact h4
  have h5:=condW_of h4 (w_not (w_lt w_lit (w_len_list (w_arg rfl))))
  rw[zlm] at h5
  refine Nat.le_of_not_lt λq=>?_
  have q':(n:Int)<((ns.length:Nat):Int):=by omega
  first
   | (rw[decide_eq_true q'] at h5;exact absurd h5 (by decide))
   | (simp at h5;omega)
 cases hwl with
 | cons w1 w2=>
  cases w2
  cases w1 with
  | list ho hall=>exact⟨_,_,ns,rfl,rfl,ho,zfj ns _ hall,hlen⟩
theorem zkW (l:OpenLaw) (args:List WData):l.row.toRowW.claim.post args (.bool true) args=true:=
 postW_of (r:=l.row.toRowW) (X:=(true == true))
  (show WShape.has [] (.bool true) .bool=true by first | rfl | decide | simp[WShape.has,WShape.arms,WShape.armsAll])
  (show (WTm.eq .res (.lit (.bool true))).value [] {args:=args,res:=some (.bool true),after:=args}=some (.bool (true == true)) from w_eq_bool (w_res rfl) w_lit) rfl
theorem attach_call {l:OpenLaw}{n:Nat}{q:Program}{loose:List Str}{XP:(Str→Option Value)→Heap→Prop}{YP:World→Heap→Prop}{d:DefRec}
  (hn:l.most=some n) (hdf:d.params.defaults=[])
  (call:∀ (w:World) (s₀ s₁:Shared) (mg mb:Str→Option Value) (fa:Addr) (o:Obj) (pm cd doc:Value) (a:Addr) (vs:List Value) (ns:List Int),
   Ground q loose [] XP w s₀ mg mb s₁.heap→YP w s₁.heap→
   s₁.heap.get? fa=some o→o.data=.func (docDef d.name d.params d.body d.scope pm cd doc)→s₁.heap.CodeRec cd d.name→mg d.name=some (.ref fa)→
   s₁.heap.get? a=some {cls:=.type "list",data:=.seq vs.toArray}→IntsAre vs ns→ns.length≤n→s₁.gens=#[]→
   codeAny (model l.prog w) callerA (.call (.ref fa) ⟨[.ref a],[]⟩) (λr s'=>r=.ok (.ret (.bool true))∧OldK s₁.heap s'.heap∧s'.os=s₁.os∧AllBare s'.gens) s₁) :
  WalkO q loose XP YP l.row.toRowW d [] (λf vs=>PySem.call f vs):=by
 intro w s₀ s₁ mg mb G Y fa o pm cd doc dV kV ho hd hcd hD hmg hg args vals as hpre hlay hrd hwl hlo
 obtain rfl:dV=.none:=Dflts.none hD hdf
 obtain rfl:kV=.none:=Dflts.noKw hD
 obtain⟨a,vs,ns,rfl,rfl,hobj,hints,hlen⟩:=zkV hn hpre hwl
 refine enter_call (codeAny_mono (call w s₀ s₁ mg mb fa o pm cd doc a vs ns G Y ho (fd_plain hd) hcd hmg hobj hints hlen hg) λr s' hq=>?_)
 obtain⟨rfl,h2,h3,h4⟩:=hq
 exact⟨.inl ⟨.bool true,.bool true,[],rfl,λ_=>rfl,.bool true,zkW l _,λ_=>⟨List.Pairwise.nil,λ_ hm=>(nomatch hm)⟩⟩,h2,h3,h4⟩
section
variable {prog : Program} {w : World} {A : Around} {E : Value → Shared → Prop} {s : Shared} {K : Frag}

end
end Att

namespace L2
open PySem PySem.Spec PyProof.Rows

theorem zfk:∀ {vs:List Value}{ns:List Int},IntsAre vs ns→Vals (ns.map V.int) vs
 | _,_,.nil=>.nil
 | _,_,.cons n t h=>.cons ⟨t,rfl⟩ (zfk h)
def Only (H:Hp):Prop:=∀ b,H b=none∨∃ o xs,H b=some (.frz o (.lst xs))
theorem zl9 {P:Program}{w:World}{K:Fg}{mg mb:Str→Option Value}{CX:CXT}{k:Nat}{fa a:Addr}{fd:FuncData}{x:Str}{sp:Sp}{s₁:Shared}{vs:List Value}{ns:List Int}
  (KX:K.In s₁.heap) (hns:s₁.heap.Ns mainGlobals mg) (hb:s₁.heap.Ns builtinsNs mb) (hbb:∀ x:Str,x≠ "__name__" →mb x=bootBuiltins x) (hlim:s₁.heap.NoLimit) (hg:s₁.gens=#[])
  (ha:s₁.heap.get? a=some {cls:=.type "list",data:=.seq vs.toArray}) (hi:IntsAre vs ns) (hl:ns.length≤sizeLine) (hr:Room k callerA)
  (F:∀ base:Heap,K.In base→base.Ns mainGlobals mg→FnOk P w K mg base CX k fa fd [x] sp) (hbind:∀ (s:Shared) (u:Value),BindsTo s fd ⟨[u],[]⟩ [(x,u)])
  (hsp:∀ H:Hp,Only H→SqL K H a (ns.map V.int)→sp [.ref a] H (λv _=>v=.bl true) λ_ _ _=>False)
  (hCX:∀ H e s',CX [] H s₁ (λ_ _ _=>False) e s'→False) :
  codeAny (model P w) callerA (.call (.ref fa) ⟨[.ref a],[]⟩) (λr s'=>r=.ok (.ret (.bool true))∧OldK s₁.heap s'.heap∧s'.os=s₁.os∧AllBare s'.gens) s₁:=by
 have rv:=zfk hi
 have lenV:=hi.length
 -- from an abstract heap in which nothing but the script may be tracked
 have core:∀ H:Hp,Only H→SqL K H a (ns.map V.int)→HOk P w H s₁.heap→(∀ b,H b≠none→b=a)→(H a≠none→K.lookup a=none)→
   codeAny (model P w) callerA (.call (.ref fa) ⟨[.ref a],[]⟩) (λr s'=>r=.ok (.ret (.bool true))∧OldK s₁.heap s'.heap∧s'.os=s₁.os∧AllBare s'.gens) s₁:=by
  intro H hO hS hok hA hK
  have base_of:∀ {b:Addr}{o:Obj},s₁.heap.get? b=some o→H b=none→(hidT s₁.heap H).get? b=some o:=λe n=>zlS e n
  have noA:∀ {b:Addr}{o:Obj}{es:Array DictEntry}{ep:Nat},s₁.heap.get? b=some o→o.data=.dict es ep→H b=none:=λ{b o es ep} e d=>by
   cases q:H b with
   | none=>rfl
   | some u=>
    have e':b=a:=hA b (by rw[q];simp)
    subst e'
    rw[ha] at e;cases e
    have d':Data.seq vs.toArray _=Data.dict es ep:=d
    cases d'
  have nsK:∀ {b:Addr}{m:Str→Option Value},s₁.heap.Ns b m→(hidT s₁.heap H).Ns b m:=λ{b m} ⟨o,es,ep,e,d,r⟩=>⟨o,es,ep,base_of e (noA e d),d,r⟩
  have hKb:K.In (hidT s₁.heap H):=λb o e=>base_of (KX b o e) (by
   cases q:H b with
   | none=>rfl
   | some u=>
    have e':b=a:=hA b (by rw[q];simp)
    subst e'
    rw[hK (by rw[q];simp)] at e;cases e)
  have hM:Mod K mg (hidT s₁.heap H):=⟨hKb,nsK hns,⟨mb,nsK hb,hbb⟩,let ⟨mc,h1,h2⟩:=hlim;⟨mc,nsK h1,h2⟩⟩
  have e0:Env0 P w K mg (hidT s₁.heap H) callerA [] s₁ H:=⟨rfl,hM,λb o e=>znt e,Nat.le_of_eq (zkq _ _),trivial,λb hb=>absurd (show b∈([]:List Addr) from hb) (by simp),hok,.of_eq hg⟩
  refine codeAny_mono ((F _ hKb (nsK hns)).run callerA [] s₁ H ⟨[.ref a],[]⟩ [.ref a] [.ref a] _ _ hr e0 (hbind s₁ (.ref a)) (.cons rfl .nil) (hsp H hO hS)) λr s' h=>?_
  cases r with
  | error e=>exact (hCX H e s' h).elim
  | ok fl=>
   cases fl with
   | next=>exact False.elim h
   | brk=>exact False.elim h
   | cont=>exact False.elim h
   | ret u=>
    obtain⟨v,H',os,bare,un,hok',r',q⟩:=h
    have q':v=.bl true:=q
    subst q'
    obtain rfl:u=Value.bool true:=r'
    refine⟨rfl,OldK.of_keep λb o e=>?_,os,bare⟩
    cases q:H b with
    | none=>exact un.keep b o e q (by intro z;exact absurd (show b∈([]:List Addr) from z) (by simp)) (by simp)
    | some u=>
     rcases hO b with z | ⟨ob,xs,z⟩
     ·rw[q] at z;cases z
     ·have z2:=un.frzs b ob _ z
      obtain⟨e1,_⟩:=hok b _ z
      obtain⟨e2,_⟩:=hok' b _ z2
      rw[e] at e1;cases e1
      exact e2
 cases hk:K.lookup a with
 | some o=>
  -- the script is one of the module's own objects
  have e:=KX a o hk
  rw[ha] at e
  cases e
  refine core (λ_=>none) (λ_=>.inl rfl) (.inr ⟨_,vs.toArray,_,hk,rfl,rfl,rfl,by rw[zst,lenV];exact hl,by simpa using rv⟩) (λb u z=>by have z':(none:Option HO)=some u:=z;cases z') (λb z=>absurd rfl z) λz=>absurd rfl z
 | none=>
  refine core (λb=>if b=a then some (.frz {cls:=.type "list",data:=.seq vs.toArray} (.lst (ns.map V.int))) else none) (λb=>?_) (.inl (.inr ⟨{cls:=.type "list",data:=.seq vs.toArray},if_pos rfl⟩)) (λb u z=>?_) (λb z=>?_) λ_=>hk
  ·by_cases hb:b=a
   ·exact .inr ⟨_,_,if_pos hb⟩
   ·exact .inl (if_neg hb)
  ·by_cases hb:b=a
   ·have z':=(if_pos hb).symm.trans z
    cases z'
    subst hb
    exact⟨ha,by rw[zlm];exact hl,vs,_,rv,ha⟩
   ·have z':=(if_neg hb).symm.trans z
    cases z'
  ·by_cases hb:b=a
   ·exact hb
   ·exact absurd (if_neg hb) z
end L2

namespace L2
open PySem PySem.Spec PyProof.Rows

end L2



namespace L2
open PySem PySem.Spec PyProof.Rows


abbrev CX0:CXT:=λ_ _ _ _ _ _=>False
abbrev E0:XK:=λ_ _ _=>False
theorem za5 {X:Cx} : zda CX0 X E0:=λ_ _ _ _ _ _ _ h=>h.elim
structure Fun (K:Fg) (x qual:Str) (st:Stmt) (f:Addr) (fd:FuncData):Prop where
 ex:∃ (oc:Value) (od:Option Addr) (kV doc pm:Value) (an:Option Addr) (cdv ct:Value) (osl:Array (Option Value)),
  fd=PySem.W.fnOf x qual (zcW st) (zb7 st) (zai st) .none kV doc pm an cdv ct∧K.lookup f=some ⟨oc,od,.func fd,osl⟩∧PySem.W.codeIn K cdv qual=true
 kp:PySem.W.keepIn K (.ref f)=true
section
variable {P : Program} {w : World} {K : Fg} {mg : Str → Option Value} {base : Heap}
theorem Fun.ok {x qual:Str}{st:Stmt}{f:Addr}{fd:FuncData}{N ps:List Str}{k:Nat}{sp:Sp}(F:Fun K x qual st f fd) (S:FSc N ps (zai st)) (len:∀ vs H Q E,sp vs H Q E→vs.length=ps.length)
  (hbody:∀ (cdv:Value) (A:Around) (outer:List Env) (s:Shared) (H:Hp) (vs:List V) (Q:VK) (E:XK),Room k (A.deeper (envOfC qual (zai st) s.heap.objs.size f cdv))→sp vs H Q E→
   ∃ t,PSs (cxOf CX0 P w K mg base N qual (zai st) f cdv A outer s H E).nox (zb7 st) t∧t {nx:=λ_ H'=>Q .non H',rt:=Q} (start N vs) H):FnOk P w K mg base CX0 (k+1) f fd ps sp:=by
 obtain⟨oc,od,kV,doc,pm,an,cdv,ct,osl,rfl,lk,hcd⟩:=F.ex
 refine zoX lk hcd S len λA outer s H vs Q E hr hsp=>?_
 obtain⟨t,h,q⟩:=hbody cdv A outer s H vs Q E hr hsp
 exact⟨t,h.nox,q⟩
theorem Fun.binds {x qual:Str}{st:Stmt}{f:Addr}{fd:FuncData}{ps:List Str}(F:Fun K x qual st f fd)
  (h:∀ (kV doc pm:Value) (an:Option Addr) (cdv ct:Value) (us:List Value),us.length=ps.length→bindArgs (PySem.W.fnOf x qual (zcW st) (zb7 st) (zai st) .none kV doc pm an cdv ct) ⟨us,[]⟩=pure (ps.zip us)):zd6 K fd ps []:=by
 obtain⟨oc,od,kV,doc,pm,an,cdv,ct,osl,rfl,lk,hcd⟩:=F.ex
 exact .all (h kV doc pm an cdv ct)
theorem zm9 {x qual:Str}{st:Stmt}{f:Addr}{oc:Value}{od an:Option Addr}{osl:Array (Option Value)}{kV doc pm cdv ct:Value}(l:K.lookup f=some ⟨oc,od,.func (PySem.W.fnOf x qual (zcW st) (zb7 st) (zai st) .none kV doc pm an cdv ct),osl⟩)
  (c:PySem.W.codeIn K cdv qual=true) (k:PySem.W.keepIn K (.ref f)=true):Fun K x qual st f (PySem.W.fnOf x qual (zcW st) (zb7 st) (zai st) .none kV doc pm an cdv ct):=⟨⟨oc,od,kV,doc,pm,an,cdv,ct,osl,rfl,l,c⟩,k⟩
end
theorem zb3 {n:Nat}(h:n≤1000):n<sizeLine:=Nat.lt_of_le_of_lt h (by decide)
section
variable {X : Cx}
theorem pv (i:Nat) {x:Str}{pos:Pos}(hN:X.N[i]?=some x:=by rfl) (hv:Vis X.env.scope x:=by first | exact Or.inl rfl | exact Or.inr (Or.inl rfl) | exact Or.inr (Or.inr rfl)) (hd:(x == ("__debug__" : Str))=false:=by decide)
  (hcd:(x == ("__classdict__" : Str))=false:=by decide):PE X (.Name x pos) (tVar i):=zoK hN hv hd hcd
end

theorem iteF {A B:Prop}(h:B):if false=true then A else B:=by
 rw[if_neg Bool.false_ne_true]
 exact h
theorem iteT {A B:Prop}(h:A):if true=true then A else B:=by
 rw[if_pos rfl]
 exact h
theorem ite2 {c A B:Prop} [Decidable c] (h1:c→A) (h2:¬ c→B):if c then A else B:=by
 by_cases h:c
 ·rw[if_pos h]
  exact h1 h
 ·rw[if_neg h]
  exact h2 h
def Same (H H':Hp):Prop:=∀ b o,H b=some o→H' b=some o
theorem Same.refl (H:Hp):Same H H:=λ_ _ h=>h
theorem Same.trans {H H1 H2:Hp}(a:Same H H1) (b:Same H1 H2):Same H H2:=λc o h=>b c o (a c o h)
theorem Same.free {H H':Hp}(e:Same H H') {l:Addr}(h:H' l=Option.none):H l=Option.none:=by
 cases q:H l with
 | none=>rfl
 | some o=>
  rw[e l o q] at h
  cases h
theorem Same.seq {K:Fg}{H H':Hp}{a:Addr}{xs:List V}(e:Same H H') (h:SqL K H a xs):SqL K H' a xs:=by
 rcases h with (h | ⟨o,h⟩) | h
 ·exact .inl (.inl (e _ _ h))
 ·exact .inl (.inr ⟨o,e _ _ h⟩)
 ·exact .inr h
section
variable {κ : Type} [DecidableEq κ]
theorem zmb {kvs:List (κ × V)}{k:κ}(h:valV kvs k=none):¬ k∈kvs.map (·.1):=by
 intro m
 obtain⟨p,hp,e⟩:=zmm.mp m
 have q:(kvs.any λkv=>decide (kv.1=k))=true:=List.any_eq_true.mpr ⟨p,hp,decide_eq_true e⟩
 rw[zcx,h] at q
 exact absurd q (by simp)
theorem zkX {kvs:List (κ × V)}{k:κ}{v:V}(h:valV kvs k=some v):k∈kvs.map (·.1):=by
 have q:(kvs.any λkv=>decide (kv.1=k))=true:=by
  rw[zcx,h]
  all_goals rfl
 obtain⟨p,hp,e⟩:=List.any_eq_true.mp q
 exact zmm.mpr ⟨p,hp,of_decide_eq_true e⟩
theorem zkY:∀ {l:List κ}{k:κ},l.Nodup→¬ k∈l→(l++[k]).Nodup
 | [],k,_,_=>by simp
 | a::r,k,h,hk=>by
  obtain⟨h1,h2⟩:=List.nodup_cons.mp h
  show (a::(r++[k])).Nodup
  refine List.nodup_cons.mpr ⟨λm=>?_,zkY h2 λm=>hk (List.mem_cons.mpr (Or.inr m))⟩
  rcases zma.mp m with q | q
  ·exact h1 q
  ·exact hk (List.mem_cons.mpr (Or.inl (zms.mp q).symm))
theorem zkZ {p:κ × V}{r:List (κ × V)}{k:κ}(e:p.1=k):zdd (p::r) k=zdd r k:=by
 unfold zdd
 rw[List.filter_cons,if_neg (by simp[e])]
theorem zk0 {p:κ × V}{r:List (κ × V)}{k:κ}(e:¬ p.1=k):zdd (p::r) k=p::zdd r k:=by
 unfold zdd
 rw[List.filter_cons,if_pos (by simp[e])]
end
end L2

namespace L2
open PySem PySem.Spec PyProof.Rows

def zcO:List Bool→St→St
 | [],_=>[]
 | _::ms,[]=>none::zcO ms []
 | b::ms,v::σ=>(if b=true then none else v)::zcO ms σ
theorem zcy:∀ (ms:List Bool) (σ:St),(zcO ms σ).length=ms.length
 | [],_=>rfl
 | _::ms,[]=>by simp[zcO,zcy ms []]
 | _::ms,_::σ=>by simp[zcO,zcy ms σ]
theorem zfl:∀ {ms:List Bool}{σ:St}{i:Nat}{v:V},(zcO ms σ)[i]?=some (some v)→ms[i]?=some false∧σ[i]?=some (some v)
 | [],_,_,_,h=>by simp[zcO] at h
 | b::ms,[],0,v,h=>by simp[zcO] at h
 | b::ms,[],i+1,v,h=>by
  have q:=zfl (ms:=ms) (σ:=[]) (i:=i) (v:=v) (by simpa [zcO] using h)
  simp at q
 | b::ms,u::σ,0,v,h=>by
  cases b with
  | true=>simp[zcO] at h
  | false=>simp[zcO] at h;simp[h]
 | b::ms,u::σ,i+1,v,h=>by
  have q:=zfl (ms:=ms) (σ:=σ) (i:=i) (v:=v) (by simpa [zcO] using h)
  simpa using q
def zcm (env:Env):List (Str × NameKind)→List (Str × Addr)→List (Str × Addr)
 | [],cs=>cs
 | (n,k)::r,cs=>zcm env r (if k=.free then (match env.cells.lookup n with | some c=>(n,c)::cs | none=>cs) else cs)
theorem zho {env:Env} : ∀ (names:List (Str × NameKind)) (cs:List (Str × Addr)),(∀ x c,cs.lookup x=some c→env.cells.lookup x=some c)→
  ∀ x c,(zcm env names cs).lookup x=some c→env.cells.lookup x=some c
 | [],cs,h,x,c,e=>h x c e
 | (n,k)::r,cs,h,x,c,e=>by
  refine zho r _ (λy d q=>?_) x c e
  by_cases hk:k=.free
  ·rw[if_pos hk] at q
   cases hn:env.cells.lookup n with
   | none=>rw[hn] at q;exact h y d q
   | some a=>
    rw[hn] at q
    simp only[List.lookup_cons] at q
    cases hy:y == n with
    | true=>
     rw[hy] at q
     have:y=n:=by simpa using hy
     subst this
     rw[hn];exact q
    | false=>rw[hy] at q;exact h y d q
  ·rw[if_neg hk] at q;exact h y d q
theorem zfm {env:Env} : ∀ (names:List (Str × NameKind)) (cs:List (Str × Addr)) (x:Str),(∀ p∈names,p.2=.free→∃ c,env.cells.lookup p.1=some c)→
  ((x,NameKind.free)∈names∨∃ c,cs.lookup x=some c)→∃ c,(zcm env names cs).lookup x=some c
 | [],cs,x,_,h=>by
  rcases h with h | h
  ·cases h
  ·exact h
 | (n,k)::r,cs,x,hf,h=>by
  refine zfm r _ x (λp hp=>hf p (List.mem_cons_of_mem _ hp)) ?_
  by_cases hk:k=.free
  ·obtain⟨c,hc⟩:=hf (n,k) List.mem_cons_self hk
   simp only at hc
   rw[if_pos hk,hc]
   rcases h with h | ⟨d,hd⟩
   ·rcases List.mem_cons.mp h with e | e
    ·cases e
     exact .inr ⟨c,by simp⟩
    ·exact .inl e
   ·refine .inr ?_
    simp only[List.lookup_cons]
    cases hy:x == n with
    | true=>exact⟨c,rfl⟩
    | false=>exact⟨d,hd⟩
  ·rw[if_neg hk]
   rcases h with h | h
   ·rcases List.mem_cons.mp h with e | e
    ·cases e;exact absurd rfl hk
    ·exact .inl e
   ·exact .inr h
theorem zfn {env:Env}{f:Str × NameKind→List (Str × Addr)→Sem (ForInStep (List (Str × Addr)))}(h1:∀ n c cs,env.cells.lookup n=some c→f (n,.free) cs=pure (.yield ((n,c)::cs)))
  (h2:∀ n k cs,k≠NameKind.free→f (n,k) cs=pure (.yield cs)) :
  ∀ (names:List (Str × NameKind)) (cs:List (Str × Addr)),(∀ p∈names,p.2=.free→∃ c,env.cells.lookup p.1=some c)→forIn names cs f=pure (zcm env names cs)
 | [],cs,_=>rfl
 | (n,k)::r,cs,hf=>by
  rw[List.forIn_cons]
  by_cases hk:k=.free
  ·subst hk
   obtain⟨c,hc⟩:=hf (n,.free) List.mem_cons_self rfl
   simp only at hc
   rw[h1 n c cs hc]
   show forIn r ((n,c)::cs) f=_
   rw[zfn h1 h2 r _ λp hp=>hf p (List.mem_cons_of_mem _ hp)]
   simp[zcm,hc]
  ·rw[h2 n k cs hk]
   show forIn r cs f=_
   rw[zfn h1 h2 r _ λp hp=>hf p (List.mem_cons_of_mem _ hp)]
   simp[zcm,hk]
theorem zk1 {scope:Scope}{env:Env}(hf:∀ p∈scope.names,p.2=.free→∃ c,env.cells.lookup p.1=some c):closureFor scope env=pure (zcm env scope.names []):=by
 simp only[closureFor]
 rw[zfn (env:=env) (λn c cs hc=>?_) (λn k cs hk=>?_) scope.names [] hf]
 ·rfl
 ·simp[cellOf,hc]
 ·have:(k == NameKind.free)=false:=by simpa using hk
  simp[this]
theorem zeK (env:Env) (x:Str):∀ (names:List (Str × NameKind)),(names.map λ(p:Str × NameKind)=>match p with
   | (n,k)=>if (k == NameKind.free && env.scope.kind == .function && env.kindOf n == some .cell)=true then (n,NameKind.cell) else (n,k)).lookup x =
  (names.lookup x).map λk=>if (k == NameKind.free && env.scope.kind == .function && env.kindOf x == some .cell)=true then NameKind.cell else k
 | []=>rfl
 | (n,k)::r=>by
  have ih:=zeK env x r
  rw[zmc]
  by_cases hc:(k == NameKind.free && env.scope.kind == .function && env.kindOf n == some .cell)=true
  ·simp only[if_pos hc,List.lookup_cons]
   cases hx:x == n with
   | true=>
    have:x=n:=by simpa using hx
    subst this
    exact (congrArg some (if_pos hc)).symm
   | false=>exact ih
  ·simp only[if_neg hc,List.lookup_cons]
   cases hx:x == n with
   | true=>
    have:x=n:=by simpa using hx
    subst this
    exact (congrArg some (if_neg hc)).symm
   | false=>exact ih
theorem zdN (scope:Scope) (env:Env) (x:Str):(relabel scope env).names.lookup x =
  (scope.names.lookup x).map λk=>if (k == NameKind.free && env.scope.kind == .function && env.kindOf x == some .cell)=true then NameKind.cell else k:=zeK env x scope.names
structure COk (sc0:Scope) (N:List Str) (scope:Scope) (N':List Str) (ms:List Bool):Prop where
 kind:scope.kind=.function
 nocell:∀ y∈scope.names,y.2≠.cell
 nm:∀ y∈scope.names,y.2=.local→scope.names.lookup y.1=some .local
 fr:∀ y∈scope.names,y.2=.free→sc0.names.lookup y.1=some .cell∨sc0.names.lookup y.1=some .free
 len:ms.length=N'.length
 own:∀ (i:Nat) (x:Str),N'[i]?=some x→ms[i]?=some false→scope.names.lookup x≠some .local
 out:∀ (i:Nat) (x:Str),N'[i]?=some x→ms[i]?=some false→scope.names.lookup x=some .free→N[i]?=some x
def zfo (N:List Str) (scope:Scope):List Str→List Bool→List (Option Str)→Bool
 | x::N',false::ms,o=>(scope.names.lookup x != some .local) && (scope.names.lookup x != some .free || o.head? == some (some x)) && zfo N scope N' ms o.tail
 | _::N',true::ms,o=>zfo N scope N' ms o.tail
 | _,_,_=>true
theorem zdB {N:List Str}{scope:Scope} : ∀ (N':List Str) (ms:List Bool) (o:List (Option Str)),zfo N scope N' ms o=true→∀ (i:Nat) (x:Str),N'[i]?=some x→ms[i]?=some false→
  scope.names.lookup x≠some .local∧(scope.names.lookup x=some .free→o[i]?=some (some x))
 | [],_,_,_,i,x,e,_=>by simp at e
 | _::_,[],_,_,i,x,_,e=>by simp at e
 | y::N',false::ms,o,h,i,x,e1,e2=>by
  simp only[zfo,Bool.and_eq_true,bne_iff_ne,ne_eq,Bool.or_eq_true,beq_iff_eq] at h
  cases i with
  | zero=>
   simp at e1;subst e1
   refine⟨h.1.1,λq=>?_⟩
   rcases h.1.2 with z | z
   ·exact absurd q z
   ·cases o with
    | nil=>simp at z
    | cons a r=>simpa using z
  | succ i=>
   have q:=zdB N' ms o.tail h.2 i x (by simpa using e1) (by simpa using e2)
   refine⟨q.1,λz=>?_⟩
   have:=q.2 z
   cases o with
   | nil=>simp at this
   | cons a r=>simpa using this
 | y::N',true::ms,o,h,i,x,e1,e2=>by
  simp only[zfo] at h
  cases i with
  | zero=>simp at e2
  | succ i=>
   have q:=zdB N' ms o.tail h i x (by simpa using e1) (by simpa using e2)
   refine⟨q.1,λz=>?_⟩
   have:=q.2 z
   cases o with
   | nil=>simp at this
   | cons a r=>simpa using this
theorem COk.mk' {sc0:Scope}{N:List Str}{scope:Scope}{N':List Str}{ms:List Bool}(kind:scope.kind=.function) (nocell:∀ y∈scope.names,y.2≠.cell)
  (nm:∀ y∈scope.names,y.2=.local→scope.names.lookup y.1=some .local) (fr:∀ y∈scope.names,y.2=.free→sc0.names.lookup y.1=some .cell∨sc0.names.lookup y.1=some .free)
  (len:ms.length=N'.length) (sl:zfo N scope N' ms (N.map some)=true):COk sc0 N scope N' ms:=
 ⟨kind,nocell,nm,fr,len,λi x e1 e2=>(zdB N' ms _ sl i x e1 e2).1,λi x e1 e2 e3=>by
  have q:=(zdB N' ms _ sl i x e1 e2).2 e3
  rw[zgm] at q
  cases h:N[i]? with
  | none=>rw[h] at q;cases q
  | some a=>rw[h] at q;simpa using q⟩
def zbv (X:Cx) (N':List Str) (scope:Scope) (cl:List (Str × Addr)) (C:Addr) (fp:List Addr) (s3:Shared) (H3:Hp):Cx where
 prog:=X.prog
 w:=X.w
 K:=X.K
 mg:=X.mg
 base:=X.base
 A:=X.A
 N:=N'
 s₀:=s3
 H₀:=H3
 env:=compEnvC scope cl C X.env
 outer:=X.stack
 stack:=X.stack
 ex:=fp
 fn:=λ_=>false
 calm:=X.calm
 pn:=[]
 xe:=λ_ _=>False
section
variable {X : Cx} {pins : List (Addr × Obj)} {σ : St} {H : Hp} {N' : List Str} {scope : Scope} {ms : List Bool} {fp : List Addr}

theorem COk.cells (ok:COk X.env.scope X.N scope N' ms) (k:X.Ok):∀ p∈scope.names,p.2=.free→∃ c,X.env.cells.lookup p.1=some c:=λp hp e=>k.has p.1 (ok.fr p hp e)
theorem zgl {x:Str}{c:Addr}(e:(zcm X.env scope.names []).lookup x=some c):X.env.cells.lookup x=some c:=zho _ [] (λ_ _ q=>by cases q) x c e
theorem COk.kinds (ok:COk X.env.scope X.N scope N' ms) {x:Str}(h:(relabel scope X.env).names.lookup x=some .cell∨(relabel scope X.env).names.lookup x=some .free):scope.names.lookup x=some .free:=by
 rw[zdN] at h
 cases e:scope.names.lookup x with
 | none=>rw[e] at h;rcases h with h | h <;> cases h
 | some k=>
  rw[e] at h
  simp only[Option.map_some,Option.some.injEq] at h
  by_cases hk:k=.free
  ·rw[hk]
  ·have hb:(k == NameKind.free)=false:=by simpa using hk
   simp only[hb,Bool.false_and,Bool.false_eq_true,if_false] at h
   rcases h with h | h
   ·exact absurd h (ok.nocell _ (PySem.mem_of_lookup e))
   ·exact absurd h hk
theorem COk.locals (ok:COk X.env.scope X.N scope N' ms) {x:Str}(h:(relabel scope X.env).names.lookup x=some .local):scope.names.lookup x=some .local:=by
 rw[zdN] at h
 cases e:scope.names.lookup x with
 | none=>rw[e] at h;cases h
 | some k=>
  rw[e] at h
  simp only[Option.map_some,Option.some.injEq] at h
  split at h
  ·cases h
  ·rw[h]
theorem znR {s3:Shared}(ok:COk X.env.scope X.N scope N' ms) (I:Inv X pins σ H s3) (hf:∀ b∈fp,FpOk X pins H b∧b<s3.heap.objs.size) :
  (zbv X N' scope (zcm X.env scope.names []) s3.heap.objs.size fp s3 H).Ok where
 mod:=I.ok.mod
 kind:=ok.kind
 glob:=I.ok.glob
 blt:=I.ok.blt
 above:=Nat.le_refl _
 inj:=λx y c h1 h2=>I.ok.inj x y c (zgl h1) (zgl h2)
 has:=λx hx=>by
  have q:=ok.kinds hx
  exact zfm _ [] x (ok.cells I.ok) (.inl (PySem.mem_of_lookup q))
 cab:=λx c h=>by cases h
 hd:=I.ok.hd
 frames:=I.ok.frames
 stk:=.inl rfl
 exf:=λb hb=>⟨Nat.ne_of_lt (hf b hb).2,λx c e=>(hf b hb).1.2.2.2.2.1 x c (zgl e)⟩
 bs:=λb o e=>I.bs b o e
 bsz:=Nat.le_trans I.ok.bsz I.sz
 noex:=λb o e hb=>by
  rcases (hf b hb).1.2.2.2.1 with z | z
  ·exact I.ok.noex b o e z
  ·exact absurd (Nat.lt_of_lt_of_le (Nat.lt_of_lt_of_le (Heap.lt_size e) I.ok.bsz) z) (Nat.lt_irrefl _)
 exfs:=λb hb z=>by
  rcases List.mem_cons.mp (I.stkSub b z) with e | e
  ·exact (hf b hb).1.2.1 e
  ·exact (hf b hb).1.2.2.1 e
 funs:=I.stack
 frf:=I.stkFree
theorem zjf {h':Heap}{s5:Shared}{C:Addr}{m:Str→Option Value}(ok:COk X.env.scope X.N scope N' ms) (I:Inv X pins σ H s5) (hk:∀ b o,s5.heap.get? b=some o→h'.get? b=some o) :
  ∀ (i:Nat) (x:Str) (v:V),N'[i]?=some x→(zcO ms σ)[i]?=some (some v)→Vis (relabel scope X.env) x→∃ u,RelV v u∧Look (compEnvC scope (zcm X.env scope.names []) C X.env) h' m x u:=by
 intro i x v e1 e2 e3
 obtain⟨em,ev⟩:=zfl e2
 rcases e3 with e3 | e3
 ·exact absurd (ok.locals e3) (ok.own i x e1 em)
 ·have q:=ok.kinds e3
  have en:=ok.out i x e1 em q
  have fr:=ok.fr _ (PySem.mem_of_lookup q) rfl
  obtain⟨m0,_,hl⟩:=I.loc
  obtain⟨u,r,l⟩:=hl i x v en ev (.inr fr)
  refine⟨u,r,?_⟩
  rcases l with ⟨k,_⟩ | ⟨k,c,e,o,ho,hd⟩
  ·have k':X.env.scope.names.lookup x=some .local:=k
   rcases fr with fr | fr
   ·have fr':X.env.scope.names.lookup x=some .cell:=fr
    rw[fr'] at k';cases k'
   ·have fr':X.env.scope.names.lookup x=some .free:=fr
    rw[fr'] at k';cases k'
  ·obtain⟨c',hc'⟩:=zfm _ [] x (ok.cells I.ok) (.inl (PySem.mem_of_lookup q))
   have z:=zgl hc'
   rw[e] at z;cases z
   exact .inr ⟨e3,c,hc',o,hk c o ho,hd⟩
theorem zjT {s3:Shared}{h4:Heap}{tk:Nat}{m:Str→Option Value}(ok:COk X.env.scope X.N scope N' ms) (I:Inv X pins σ H s3) (hf:∀ b∈fp,FpOk X pins H b∧b<s3.heap.objs.size)
  (hn:h4.Ns s3.heap.objs.size m) (hk:∀ b o,s3.heap.get? b=some o→h4.get? b=some o) :
  Inv (zbv X N' scope (zcm X.env scope.names []) s3.heap.objs.size fp s3 H) [] (zcO ms σ) H {s3 with heap:=h4,toks:=tk} where
 ok:=znR ok I hf
 os:=rfl
 bare:=I.bare
 base:=Un.kept hk
 loc:=⟨m,hn,zjf ok I hk⟩
 cell:=λx c e=>by
  obtain⟨v,o,ho,hd⟩:=I.cell x c (zgl e)
  exact⟨v,o,hk c o ho,hd⟩
 free:=I.hok.fresh (Nat.le_refl _)
 freeC:=λx c e=>I.freeC x c (zgl e)
 pin:=λp hp=>absurd (show p∈([]:List (Addr × Obj)) from hp) (by simp)
 hok:=I.hok.kept hk
 len:=by rw[zcy,ok.len];rfl
theorem zhp {pins':List (Addr × Obj)}{σ':St}{H':Hp}{s3 s':Shared}{cl:List (Str × Addr)}{C:Addr}(I:Inv X pins σ H s3) (hf:∀ b∈fp,FpOk X pins H b∧b<s3.heap.objs.size)
  (J:Inv (zbv X N' scope cl C fp s3 H) pins' σ' H' s'):Inv X pins σ H' s':=
 I.call' J.os J.base J.hok J.bare λb hb=>by
  obtain⟨_,f1,_,f3,f4,f5⟩:=(hf b hb).1
  exact⟨f3,f1,f4,f5⟩
theorem zjU {pins':List (Addr × Obj)}{σ':St}{H':Hp}{s3 s':Shared}(ok:COk X.env.scope X.N scope N' ms) (I:Inv X pins σ H s3) (hf:∀ b∈fp,FpOk X pins H b∧b<s3.heap.objs.size)
  (J:Inv (zbv X N' scope (zcm X.env scope.names []) s3.heap.objs.size fp s3 H) pins' σ' H' s'):Inv (zbv X N' scope (zcm X.env scope.names []) s3.heap.objs.size fp s3 H) [] (zcO ms σ) H' s' where
 ok:=J.ok
 os:=J.os
 bare:=J.bare
 base:=J.base
 loc:=by
  obtain⟨m,hn,_⟩:=J.loc
  exact⟨m,hn,zjf ok (zhp I hf J) λ_ _ e=>e⟩
 cell:=J.cell
 free:=J.free
 freeC:=J.freeC
 pin:=λp hp=>absurd (show p∈([]:List (Addr × Obj)) from hp) (by simp)
 hok:=J.hok
 len:=by rw[zcy,ok.len];rfl
end

def PIfs (X:Cx) (ifs:List Expr) (t:TT):Prop:=
 ∀ (pins:List (Addr × Obj)) (s:Shared) (σ:St) (H:Hp) (Q:Bool→Hp→Prop),Inv X pins σ H s→t σ H Q→
  wpAny (model X.prog X.w) X.A (forIn ifs true λc r=>if r=true then do let ok ←isTrue c X.env (eval c X.env);pure (ForInStep.yield ok) else pure (ForInStep.yield r)) (TP X pins σ Q) X.xe s
def znS:TT:=λ_ H Q=>Q true H
theorem za0 {X:Cx} : PIfs X [] znS:=λ_ _ _ H _ I h=>wpAny_tests_nil ⟨H,I,h⟩
theorem zmd {X:Cx}{c:Expr}{t:TT}(h:PT X c t):PIfs X [c] t:=λpins s σ H Q I q=>wpAny_tests_one (h pins s σ H Q I q)
theorem zk2 {prog:Program}{w:World}{A:Around}{R:Result→Shared→Prop}{s:Shared}{elt target iter:Expr}{ifs:List Expr}{scope:Scope}{pos:Pos}{it acc:Value}{env:Env}(I:Nat→Shared→Prop)
  (turn:∀ n s (E:Value→Shared→Prop),I n s→wpAny (model prog w) A (pyNext it) (λr s1=>match r with
   | none=>R (.ok .next) s1
   | some v=>wpAny (model prog w) A (letOwnedTupleGo target it v) (λ_ s2=>wpAny (model prog w) A (assign target env v) (λ_ s3=>
     wpAny (model prog w) A (forIn ifs true λc r=>if r=true then do let ok ←isTrue c env (eval c env);pure (ForInStep.yield ok) else pure (ForInStep.yield r)) (λok s4=>
      if ok=true then wpAny (model prog w) A (eval elt env) (λx s5=>wpAny (model prog w) A (call (.builtin "list.append") [acc,x]) (λ_ s6=>∃ m,m<n∧I m s6) E s5) E s4
      else ∃ m,m<n∧I m s4) E s3) E s2) E s1) E s)
  (n:Nat) (h:I n s):codeAny (model prog w) A (.compLoop (.ListComp elt [⟨target,iter,ifs,0⟩] scope pos) 0 it acc env) R s:=by
 refine codeAny_loop rfl I (λn s hI=>?_) n h
 refine wpAny_noted (env:=env) ?_
 rw[compTurn_list]
 refine wpAny_bind (wpAny_standAt (wpAny_bind ?_))
 refine wpAny_mono (turn n s _ hI) (λr s1 h1=>?_) λ_ _ e=>e
 cases r with
 | none=>exact wpAny_pure h1
 | some v=>
  refine wpAny_bind (wpAny_mono h1 (λ_ s2 h2=>?_) λ_ _ e=>e)
  refine wpAny_bind (wpAny_mono h2 (λ_ s3 h3=>?_) λ_ _ e=>e)
  refine wpAny_bind (wpAny_mono h3 (λok s4 h4=>?_) λ_ _ e=>e)
  cases ok with
  | false=>exact wpAny_pure ⟨rfl,h4⟩
  | true=>
   refine wpAny_bind (wpAny_bind (wpAny_mono h4 (λx s5 h5=>?_) λ_ _ e=>e))
   exact wpAny_bind (wpAny_mono h5 (λ_ s6 h6=>wpAny_pure (wpAny_pure ⟨rfl,h6⟩)) λ_ _ e=>e)
def zmf (ms:List Bool) (wi:TI) (g:TG) (tt:TT) (te:TE):TE:=λσ H Q=>wi σ H λJ H1=>∀ D,H1 D=none→
 ∃ W:Nat→Nat→List V→Hp→Prop,(∃ m,W 0 m [] (upd H1 D (.lst [])))∧∀ i m ys H,W i m ys H→H D=some (.lst ys)∧
  ((J.stop i H∧Q (.ref D) H)∨(J.go i H∧ys.length<sizeLine∧∃ N:List V→Hp→Prop,(∀ ys' H',N ys' H'→∃ m',m'<m∧W (i+1) m' ys' H')∧
   ∀ x H',J.yld i H x H'→g x (zcO ms σ) H' λσ2 H2=>tt σ2 H2 λb H3=>if b=true then te σ2 H3 λy H4=>H4 D=some (.lst ys)∧N (ys++[y]) (upd H4 D (.lst (ys++[y]))) else N ys H3))
section
variable {X : Cx} {tg iter elt : Expr} {ifs : List Expr} {scope : Scope} {pos : Pos} {N' : List Str} {ms : List Bool} {wi : TI} {g : TG} {tt : TT} {te : TE}

set_option maxHeartbeats 4000000 in
theorem zhq {pins:List (Addr × Obj)}{s:Shared}{σ:St}{H:Hp}{Q:VK}{RR:Value→Addr→Result→Shared→Prop}(hc:X.calm=true) (ok:COk X.env.scope X.N scope N' ms) (hi:PI X tg iter wi)
  (hg:∀ cl C fp s3 H3,PG (zbv X N' scope cl C fp s3 H3) tg g) (ht:∀ cl C fp s3 H3,PIfs (zbv X N' scope cl C fp s3 H3) ifs tt) (he:∀ cl C fp s3 H3,PE (zbv X N' scope cl C fp s3 H3) elt te)
  (I:Inv X pins σ H s) (h:zmf ms wi g tt te σ H Q)
  (hRR:∀ D C H' s' m,s'.heap.Ns C m→Inv X pins σ H' s'→FpOk X pins H' C→Q (.ref D) H'→RR (.ref D) C (.ok .next) s') :
  wpAny (model X.prog X.w) X.A (eval iter X.env) (λx s1=>wpAny (model X.prog X.w) X.A (pyIter x) (λit s2=>wpAny (model X.prog X.w) X.A (newList []) (λacc s3=>
   wpAny (model X.prog X.w) X.A (newFunctionEnv scope X.env.globals (zcm X.env scope.names []) [] X.env.qual none .none (some X.env)) (λcenv s4=>
    codeAny (model X.prog X.w) X.A (.compStart (.ListComp elt [⟨tg,iter,ifs,0⟩] scope pos) 0 it acc {cenv with scope:=relabel scope X.env}) (RR acc cenv.locals) s4) X.xe s3) X.xe s2) X.xe s1) X.xe s:=by
 refine thn (hi pins s σ H _ I h) λv s1 h1=>thn h1 λitv s2 h2=>?_
 obtain⟨it,fp,tn,J,H2,e,I2,T,st2,f2,h2⟩:=h2
 subst e
 obtain⟨W,⟨m0,w0⟩,turn⟩:=h2 s2.heap.objs.size I2.fresh
 refine wpAny_newObj_type ?_
 have I3:=I2.lnew (ys:=[]) (its:=[]) (t':=s2.toks) .nil (Nat.zero_le _)
 generalize hs3:({s2 with heap:=s2.heap.push {cls:=.type "list",data:=.seq ([]:List Value).toArray},toks:=s2.toks} : Shared)=s3 at I3
 refine wpAny_newFunctionEnv ok.nocell (by intro y hy;simp at hy) (λh4 hn4 hs4=>?_) ok.kind
 have sz:s3.heap.objs.size=s2.heap.objs.size+1:=by rw[←hs3];exact Heap.size_push ..
 have old2:∀ b o,s2.heap.get? b=some o→s3.heap.get? b=some o:=λb o e=>by rw[←hs3];exact Heap.get?_push_of_some _ e
 have old:∀ b o,s3.heap.get? b=some o→h4.get? b=some o:=λb o e=>hs4.extBut b o (Nat.ne_of_lt (Heap.lt_size e)) (Heap.get?_push_of_some _ e)
 have fp2:∀ b∈fp,b<s2.heap.objs.size:=λb hb=>by
  obtain⟨o,ho,_⟩:=T.obj 0 _ st2 b hb
  exact Heap.lt_size ho
 have nD:∀ b∈fp,b≠s2.heap.objs.size:=λb hb=>Nat.ne_of_lt (fp2 b hb)
 have f3:∀ b∈fp,FpOk X pins (upd H2 s2.heap.objs.size (.lst [])) b∧b<s3.heap.objs.size:=λb hb=>by
  refine⟨⟨?_,(f2 b hb).2⟩,by rw[sz];exact Nat.lt_succ_of_lt (fp2 b hb)⟩
  rw[zaj (nD b hb)];exact (f2 b hb).1
 have J4:Inv (zbv X N' scope (zcm X.env scope.names []) s3.heap.objs.size fp s3 (upd H2 s2.heap.objs.size (.lst []))) [] (zcO ms σ) (upd H2 s2.heap.objs.size (.lst [])) {s3 with heap:=h4,toks:=s3.toks+0}:=
  zjT ok I3 f3 hn4 old
 have stat:∀ {H':Hp},(∀ b∈fp,H' b=none)→∀ b∈fp,FpOk (zbv X N' scope (zcm X.env scope.names []) s3.heap.objs.size fp s3 (upd H2 s2.heap.objs.size (.lst []))) [] H' b:=λhn b hb=>
  ⟨hn b hb,(J4.ok.exf b hb).1,J4.ok.exfs b hb,.inl hb,(J4.ok.exf b hb).2,λp hp=>absurd (show p∈([]:List (Addr × Obj)) from hp) (by simp)⟩
 have loop:codeAny (model X.prog X.w) X.A (.compLoop (.ListComp elt [⟨tg,iter,ifs,0⟩] scope pos) 0 (.ref it) (.ref s2.heap.objs.size) (compEnvC scope (zcm X.env scope.names []) s3.heap.objs.size X.env))
   (RR (.ref s2.heap.objs.size) s3.heap.objs.size) {s3 with heap:=h4,toks:=s3.toks+0}:=by
  refine zk2 (λn s'=>∃ i H' ys,Inv (zbv X N' scope (zcm X.env scope.names []) s3.heap.objs.size fp s3 (upd H2 s2.heap.objs.size (.lst []))) [] (zcO ms σ) H' s'∧tn i s'.heap∧(∀ b∈fp,H' b=none)∧W i n ys H') ?_ m0
   ⟨0,_,[],J4,T.keep 0 _ _ st2 λb hb o e=>old b o (old2 b o e),λb hb=>(f3 b hb).1.1,w0⟩
  rintro n s5 E ⟨i,H5,ys,J5,st5,fr5,w5⟩
  obtain⟨hD,alt⟩:=turn i n ys H5 w5
  rcases alt with ⟨stop,q⟩ | ⟨go,hz,N,hN,step⟩
  ·refine thn (T.done (zbv X N' scope (zcm X.env scope.names []) s3.heap.objs.size fp s3 (upd H2 s2.heap.objs.size (.lst []))) rfl rfl rfl hc i [] s5 _ H5 E J5 (stat fr5) st5 stop) λr s6 ⟨hr,J6⟩=>?_
   subst hr
   obtain⟨m,hn,_⟩:=id J6.loc
   have I6:=zhp I3 f3 J6
   refine hRR _ _ H5 s6 m hn I6 ?_ q
   have hC:H5 s3.heap.objs.size=none:=J6.free
   obtain⟨g0,g1,g2,g3,g4,g5⟩:=I3.fpOk (b:=s3.heap.objs.size) (H':=H5) (Nat.le_refl _) hC
   exact⟨g0,g1,g2,g3,g4,g5⟩
  ·refine thn (T.item (zbv X N' scope (zcm X.env scope.names []) s3.heap.objs.size fp s3 (upd H2 s2.heap.objs.size (.lst []))) rfl rfl rfl hc i [] s5 _ H5 E J5 (stat fr5) st5 go) λr s6 ⟨u,hr,h6⟩=>?_
   subst hr
   refine thn h6 λ_ s7 ⟨x,H7,J7,r7,y7,st7,fr7⟩=>?_
   have J7':=J7.pinned (stat fr7) (T.obj _ _ st7)
   have again:∀ {σ8:St}{H8:Hp}{s8:Shared}{zs:List V},Inv (zbv X N' scope (zcm X.env scope.names []) s3.heap.objs.size fp s3 (upd H2 s2.heap.objs.size (.lst []))) ([]++zg7 fp s7.heap) σ8 H8 s8→N zs H8→
     ∃ m,m<n∧∃ i H' ys,Inv (zbv X N' scope (zcm X.env scope.names []) s3.heap.objs.size fp s3 (upd H2 s2.heap.objs.size (.lst []))) [] (zcO ms σ) H' s8∧tn i s8.heap∧(∀ b∈fp,H' b=none)∧W i m ys H':=λ{σ8 H8 s8 zs} J8 n8=>by
    obtain⟨m',hm,w8⟩:=hN zs H8 n8
    refine⟨m',hm,i+1,H8,zs,zjU ok I3 f3 J8,T.keep _ _ _ st7 λb hb o e=>(J8.pin (b,o) (List.mem_append_right _ (List.mem_append_right _ (zdA hb e)))).1,λb hb=>?_,w8⟩
    obtain⟨o,e,d⟩:=T.obj _ _ st7 b hb
    exact (J8.pin (b,o) (List.mem_append_right _ (List.mem_append_right _ (zdA hb e)))).2.1
   refine wpAny_mono (hg _ _ _ _ _ _ s7 _ H7 x u _ J7' r7 (step x H7 y7)) (λ_ s8 ⟨σ8,H8,J8,q8⟩=>?_) λ_ _ z=>False.elim z
   refine wpAny_mono (ht _ _ _ _ _ _ s8 σ8 H8 _ J8 q8) (λb s9 ⟨H9,J9,q9⟩=>?_) λ_ _ z=>False.elim z
   cases b with
   | false=>exact again J9 q9
   | true=>
    refine wpAny_mono (he _ _ _ _ _ _ s9 σ8 H9 _ J9 q9) (λv s10 ⟨y,H10,J10,r10,hD10,q10⟩=>?_) λ_ _ z=>False.elim z
    refine wpAny_mono (zdh (X:=(zbv X N' scope (zcm X.env scope.names []) s3.heap.objs.size fp s3 (upd H2 s2.heap.objs.size (.lst [])))) _ s10 σ8 H10 (.ref s2.heap.objs.size) [y] (.ref s2.heap.objs.size) [v] (λ_ H'=>H'=upd H10 s2.heap.objs.size (.lst (ys++[y]))) J10 rfl (.cons r10 .nil) ⟨_,ys,y,rfl,rfl,hD10,hz,rfl⟩)
     (λ_ s11 ⟨_,H11,J11,_,e11⟩=>?_) λ_ _ z=>False.elim z
    subst e11
    exact again J11 q10
 exact codeAny_compStart_list loop (T.self _ 0 _ _ _ (T.keep 0 _ _ st2 λb hb o e=>old b o (old2 b o e)) loop)
theorem zbE (hc:X.calm=true) (ok:COk X.env.scope X.N scope N' ms) (hi:PI X tg iter wi)
  (hg:∀ cl C fp s3 H3,PG (zbv X N' scope cl C fp s3 H3) tg g) (ht:∀ cl C fp s3 H3,PIfs (zbv X N' scope cl C fp s3 H3) ifs tt) (he:∀ cl C fp s3 H3,PE (zbv X N' scope cl C fp s3 H3) elt te)
  (hs:∀ x,foldedSetIterable iter X.env x=pure x:=by intro _;rfl):PE X (.ListComp elt [⟨tg,iter,ifs,0⟩] scope pos) (zmf ms wi g tt te):=by
 intro pins s σ H Q I h
 rw[eval_ListComp]
 refine wpAny_comprehension_free (use:=none) rfl hs (zk1 (ok.cells I.ok)) ok.kind ok.nm ?_
 refine zhq (RR:=λacc C=>compPost (model X.prog X.w) X.A X.xe none (EP X pins σ Q) acc C) hc ok hi hg ht he I h λD C H' s' m hn I' ⟨g0,g1,g2,g3,g4,g5⟩ q=>?_
 refine⟨m,hn,λh' sb=>⟨.ref D,H',?_,rfl,q⟩⟩
 exact I'.turned (t':=s'.toks) (λb o hb e=>sb.extBut b o hb e) g0 g1 g3 g4 g5
theorem zcP {i:Nat}{y:Str}{py spos:Pos}(hN:X.N.Nodup) (hy:X.N[i]?=some y) (hl:X.env.scope.names.lookup y=some .local) (hc:X.calm=true) (ok:COk X.env.scope X.N scope N' ms) (hi:PI X tg iter wi)
  (hg:∀ cl C fp s3 H3,PG (zbv X N' scope cl C fp s3 H3) tg g) (ht:∀ cl C fp s3 H3,PIfs (zbv X N' scope cl C fp s3 H3) ifs tt) (he:∀ cl C fp s3 H3,PE (zbv X N' scope cl C fp s3 H3) elt te)
  (hsw:swapsWith (.ListComp elt [⟨tg,iter,ifs,0⟩] scope pos) (some (.Name y py)) spos.line X.env=pure true:=by rfl)
  (hs:∀ x,foldedSetIterable iter X.env x=pure x:=by intro _;rfl):PS X (.Assign [.Name y py] (.ListComp elt [⟨tg,iter,ifs,0⟩] scope pos) spos) (tAsg (zmf ms wi g tt te) (zlV i)):=by
 intro pins s σ H D I h
 rw[exec_Assign_Name_used _ _ _ _ hsw]
 refine wpAny_bind (wpAny_standAt (wpAny_bind ?_))
 show wpAny _ _ (do let _ ←comprehension (.ListComp elt [⟨tg,iter,ifs,0⟩] scope pos) scope X.env _ (newList []) false (eval iter X.env) (some (assign (.Name y py) X.env))) _ _ s
 refine wpAny_bind (wpAny_mono (wpAny_comprehension_free (use:=some (assign (.Name y py) X.env)) (Q:=λ_ s'=>SP X pins D .next s') rfl hs (zk1 (ok.cells I.ok)) ok.kind ok.nm ?_) (λ_ s' q=>wpAny_pure (wpAny_pure q)) λ_ _ e=>e)
 refine zhq (RR:=λacc C=>compPost (model X.prog X.w) X.A X.xe (some (assign (.Name y py) X.env)) (λ_ s'=>SP X pins D .next s') acc C) hc ok hi hg ht he I h λDa C H' s' m hn I' ⟨g0,g1,g2,g3,g4,g5⟩ q=>?_
 show wpAny _ _ (assign (.Name y py) X.env (.ref Da)) _ _ s'
 refine wpAny_assign_Name (zg4 I' hN hy (.inl hl) (show RelV (.ref Da) (.ref Da) from rfl) (λs'' I'' ⟨a,sa,ha⟩=>?_) (.inr hl))
 have hCa:C≠a:=by
  rcases ha with e | e
  ·rw[e];exact g1
  ·exact λz=>g4 y a e z.symm
 refine⟨m,hn.sameBut sa hCa,λh' sb=>⟨σ.set i (some (.ref Da)),H',?_,q⟩⟩
 exact I''.turned (t':=s''.toks) (λb o hb e=>sb.extBut b o hb e) g0 g1 g3 g4 g5
end
end L2

namespace L2
open PySem PySem.Spec PyProof.Rows

section
variable {X : Cx} {pins : List (Addr × Obj)} {σ : St} {H : Hp} {s : Shared} {h' : Heap} {t' : Nat}
theorem Inv.turnedN {ch:List Addr}(I:Inv X pins σ H s) (hch:∀ b∈ch,FpOk X pins H b) (k:∀ b o,b∉ch→s.heap.get? b=some o→h'.get? b=some o):Inv X pins σ H {s with heap:=h',toks:=t'}:=by
 have nit:∀ b u,H b=some u→b∉ch:=λb u e z=>by rw[(hch b z).1] at e;cases e
 refine I.step (g':=s.gens) (d':=s.drawn) (ch:=ch) (λb hb=>?_) (λb o _ _ hc e _=>k b o hc e) (λb o _ _ hc e _=>⟨o.slots,k b o hc e⟩) (λ_ _ _ _ n=>n) (λb o hc e=>⟨o,k b o hc e⟩) (λ_ _ e=>e) (λ_ _ _ e=>e)
  (λb ps e=>⟨#[],by rw[e];simp⟩) (λm hm=>?_) (λb u e=>?_) I.bare
 ·obtain⟨_,f1,_,f3,f4,f5⟩:=hch b hb
  exact⟨f3,f1,f4,f5⟩
 ·obtain⟨o,es,ep,ho,r⟩:=hm
  exact⟨o,es,ep,k _ o (λz=>(hch _ z).2.1 rfl) ho,r⟩
 ·refine (I.hok b u e).stay (λc v hc q=>k c v ?_ q) (λ_ q=>q) λ_ _ q=>q
  rcases hc with z | z
  ·rw[z];exact nit b u e
  ·exact nit c _ z
end

theorem zjV {h:Heap}{a b:Addr}{o u:Obj}(e1:h.get? a=some o) (e2:h.get? b=some u) (d:o.cls≠u.cls):a≠b:=λz=>by
 subst z;rw[e1] at e2;cases e2;exact d rfl
theorem zdi {h:Heap}{a b:Addr}{its:Array Value}{u:Obj}{T:String}(e1:h.IsList a its) (e2:h.get? b=some u) (c:u.cls=.type T) (d:T≠ "list"):a≠b:=by
 obtain⟨o,ho,hc,_⟩:=e1
 refine zjV ho e2 ?_
 rw[hc,c]
 intro z
 injection z with z
 exact d z.symm
def Itz (K:Fg) (a b:Addr):It:=
  ⟨λi H=>∃ xs ys x y,SqL K H a xs∧SqL K H b ys∧xs[i]?=some x∧ys[i]?=some y,
   λi H v H'=>∃ T,H T=none∧v=.ref T∧∀ xs ys x y,SqL K H a xs→SqL K H b ys→xs[i]?=some x→ys[i]?=some y→H'=upd H T (.tup [x,y]),
   λi H=>∃ xs ys,SqL K H a xs∧SqL K H b ys∧(xs[i]?=none∨ys[i]?=none)⟩
structure Zap (z TI TO i1 i2:Addr):Prop where
 a1:TI≠z
 a2:TO≠z
 a3:i1≠z
 a4:i2≠z
 a5:TI≠TO
 a6:TI≠i1
 a7:TI≠i2
 a8:TO≠i1
 a9:TO≠i2
 a10:i1≠i2
theorem zk3 (n:Nat):Zap (n+4) (n+2) (n+3) n (n+1):=by constructor <;> (show (_:Nat)≠_;omega)
def zpf (z TI TO i1 i2 a b:Addr) (i:Nat) (h:Heap):Prop:=IsZip h z TI TO .none∧IsPair h TI (.ref i1) (.ref i2)∧(∃ p q,IsPair h TO p q)∧h.IsListIter i1 a i∧h.IsListIter i2 b i
theorem zna {h:Heap}{z TI TO i1 i2 a b:Addr}{i:Nat}{xs ys:Array Value}(D:Zap z TI TO i1 i2) (t:zpf z TI TO i1 i2 a b i h) (hx:h.IsList a xs) (hy:h.IsList b ys):ZipApart z TI TO i1 i2 a b:=by
 obtain⟨hz,hI,⟨p,q,hO⟩,⟨o1,e1,c1,_⟩,⟨o2,e2,c2,_⟩⟩:=t
 exact⟨D.a1,D.a2,D.a3,D.a4,D.a5,D.a6,D.a7,D.a8,D.a9,D.a10,zdi hx hz rfl (by decide),zdi hx hO rfl (by decide),zdi hx e1 c1 (by decide),zdi hx e2 c2 (by decide),zdi hy hz rfl (by decide),zdi hy hO rfl (by decide),zdi hy e1 c1 (by decide),zdi hy e2 c2 (by decide)⟩
theorem zmh {P:Program}{w:World}{K:Fg}{elts:List Expr}{kx:Nat}{tpos:Pos}{z TI TO i1 i2:Addr}(a b:Addr) (D:Zap z TI TO i1 i2) :
  Turn P w K (.Tuple elts kx tpos) (Itz K a b) [z,TI,TO,i1,i2] z (zpf z TI TO i1 i2 a b) where
 mem:=by simp
 obj:=λi h st c hb=>by
  obtain⟨hz,hI,⟨p,q,hO⟩,⟨o1,e1,c1,d1⟩,⟨o2,e2,c2,d2⟩⟩:=st
  simp only[List.mem_cons,List.not_mem_nil,or_false] at hb
  rcases hb with rfl | rfl | rfl | rfl | rfl
  ·exact⟨_,hz,λv x=>by cases x⟩
  ·exact⟨_,hI,λv x=>by cases x⟩
  ·exact⟨_,hO,λv x=>by cases x⟩
  ·exact⟨_,e1,λv x=>by rw[d1] at x;cases x⟩
  ·exact⟨_,e2,λv x=>by rw[d2] at x;cases x⟩
 keep:=λi h h' st k=>by
  obtain⟨hz,hI,⟨p,q,hO⟩,h1,h2⟩:=st
  exact⟨k z (by simp) _ hz,k TI (by simp) _ hI,⟨p,q,k TO (by simp) _ hO⟩,h1.at λo e=>k i1 (by simp) o e,h2.at λo e=>k i2 (by simp) o e⟩
 item:=by
  intro X hP hw hK hc i pins s σ H E I hf st hg
  subst hP hw hK
  obtain⟨xs,ys,x,y,hx,hy,ex,ey⟩:=hg
  obtain⟨its,rx,px,zx⟩:=I.list hx
  obtain⟨jts,ry,py,zy⟩:=I.list hy
  obtain⟨u,eu,ru⟩:=rx.get ex
  obtain⟨v,ev,rv⟩:=ry.get ey
  have Z:=zna D st px.isList py.isList
  obtain⟨hz,hI,⟨p,q,hO⟩,h1,h2⟩:=id st
  refine wpAny_pyNext_zip_item Z hz hI hO h1 h2 px.isList py.isList (x:=u) (y:=v) (by simpa using eu) (by simpa using ev) λh' z1 o1 l1 l2 t1 sz k1=>?_
  refine⟨_,rfl,wpAny_letOwnedTupleGo_zip (s:={s with heap:=h'}) z1 λh'' z2 sb=>?_⟩
  have nT:H s.heap.objs.size=none:=I.hok.fresh (Nat.le_refl _)
  have IT:Inv X pins σ (upd H s.heap.objs.size (.tup [x,y])) {s with heap:=s.heap.push {cls:=.type "tuple",data:=.seq #[u,v]},toks:=s.toks}:=
   I.laid (λb o e=>Heap.get?_push_of_some _ e) (Nat.le_refl _) (show zbr X.prog X.w _ _ _ (.tup [x,y]) from ⟨by show 2≤sizeLine;decide,[u,v],.cons ru (.cons rv .nil),IsTup.new _ _⟩)
  have nz:z≠s.heap.objs.size:=Nat.ne_of_lt (Heap.lt_size hz)
  have fT:∀ c∈[z,TI,TO,i1,i2],FpOk X pins (upd H s.heap.objs.size (.tup [x,y])) c:=λc hcm=>by
   obtain⟨g0,gr⟩:=hf c hcm
   refine⟨?_,gr⟩
   obtain⟨o,ho,_⟩:∃ o,s.heap.get? c=some o∧True:=by
    simp only[List.mem_cons,List.not_mem_nil,or_false] at hcm
    rcases hcm with rfl | rfl | rfl | rfl | rfl
    ·exact⟨_,hz,trivial⟩
    ·exact⟨_,hI,trivial⟩
    ·exact⟨_,hO,trivial⟩
    ·obtain⟨o,e,_⟩:=h1;exact⟨o,e,trivial⟩
    ·obtain⟨o,e,_⟩:=h2;exact⟨o,e,trivial⟩
   rw[zaj (Nat.ne_of_lt (Heap.lt_size ho))]
   exact g0
  have up:∀ c o,c∉[z,TI,TO,i1,i2]→(s.heap.push {cls:=.type "tuple",data:=.seq #[u,v]}).get? c=some o→h''.get? c=some o:=λc o hn e=>by
   simp only[List.mem_cons,List.not_mem_nil,or_false,not_or] at hn
   refine sb.extBut c o hn.1 ?_
   by_cases hcs:c=s.heap.objs.size
   ·subst hcs
    rw[Heap.get?_push_size _ rfl] at e
    cases e
    exact t1
   ·refine k1 c o hn.1 hn.2.2.1 hn.2.2.2.1 hn.2.2.2.2 ?_
    rw[Heap.get?_push_ne _ _ _ hcs] at e
    exact e
  refine⟨.ref s.heap.objs.size,_,IT.turnedN (h':=h'') (t':=s.toks) fT up,rfl,⟨_,nT,rfl,λxs' ys' x' y' q1 q2 q3 q4=>?_⟩,?_,λc hcm=>(fT c hcm).1⟩
  ·rw[I.list_inj q1 hx,ex] at q3
   rw[I.list_inj q2 hy,ey] at q4
   cases q3;cases q4;rfl
  ·refine⟨z2,sb.extBut _ _ D.a1 (k1 _ _ D.a1 D.a5 D.a6 D.a7 hI),⟨_,_,sb.extBut _ _ D.a2 o1⟩,l1.extBut sb.extBut D.a3,l2.extBut sb.extBut D.a4⟩
 done:=by
  intro X hP hw hK hc i pins s σ H E I hf st hg
  subst hP hw hK
  obtain⟨xs,ys,hx,hy,en⟩:=hg
  obtain⟨its,rx,px,zx⟩:=I.list hx
  obtain⟨jts,ry,py,zy⟩:=I.list hy
  have Z:=zna D st px.isList py.isList
  obtain⟨hz,hI,⟨p,q,hO⟩,h1,h2⟩:=id st
  have en':its.toArray[i]?=none∨jts.toArray[i]?=none:=by
   rcases en with e | e
   ·exact .inl (by simpa using rx.none_of e)
   ·exact .inr (by simpa using ry.none_of e)
  exact wpAny_pyNext_zip_end (I.ok.hd hc) Z hz hI hO h1 h2 px.isList py.isList en' λh' k1=>⟨rfl,I.turnedN (t':=s.toks) hf λc o hn e=>by
   simp only[List.mem_cons,List.not_mem_nil,or_false,not_or] at hn
   exact k1 c o hn.1 hn.2.2.1 hn.2.2.2.1 hn.2.2.2.2 e⟩
 self:=λ_ _ _ _ _ st h=>wpAny_pyIter_zip st.1 h
def iZip (K:Fg) (ta:TA):TI:=λσ H R=>ta σ H λvs H1=>∃ a b,vs=[.ref a,.ref b]∧(∃ xs,SqL K H1 a xs)∧(∃ ys,SqL K H1 b ys)∧R (Itz K a b) H1
theorem zjg:bootBuiltins "zip"=some (.type "zip"):=by decide +kernel
theorem zfY:bootBuiltins "enumerate"=some (.type "enumerate"):=by decide +kernel
section
variable {X : Cx}
theorem zpg {elts:List Expr}{kx:Nat}{tpos:Pos}{a b:Expr}{ta:TA}{p pos:Pos}(hg:Gl X "zip") (hm:X.mg "zip"=none) (ha:PA X [a,b] ta) (hs:starEach [a,b] X.env=[(false,eval a X.env),(false,eval b X.env)]:=by rfl) (hs2:starEach [b] X.env=[(false,eval b X.env)]:=by rfl) :
  PI X (.Tuple elts kx tpos) (.Call (.Name "zip" p) [a,b] [] pos) (iZip X.K ta):=by
 intro pins s σ H R I h
 refine Call_ (zfc I hg hm zjg (PyProof.Rows.callWith_type1 (thn (ha pos pins s σ H _ I h) λus s1 ⟨vs,H1,I1,r1,q1⟩=>?_) (by rw[hs,hs2]) (by rw[hs2];rfl)))
 obtain⟨l1,l2,e,⟨xs,hx⟩,⟨ys,hy⟩,q⟩:=q1
 subst e
 obtain⟨u,v,e,ru,rv⟩:=r1.two
 subst e
 cases ru;cases rv
 obtain⟨its,rx,px,zx⟩:=I1.list hx
 obtain⟨jts,ry,py,zy⟩:=I1.list hy
 refine call_zip_2 px.isList py.isList λh' z1 p1 p2 i1 i2 sz k=>?_
 refine wpAny_pyIter_zip (s:={s1 with heap:=h'}) z1 ?_
 have I2:Inv X pins σ H1 {s1 with heap:=h',toks:=s1.toks}:=I1.kept k
 have D:=zk3 s1.heap.objs.size
 refine⟨_,_,_,_,H1,rfl,I2,zmh l1 l2 D,⟨z1,p1,⟨_,_,p2⟩,i1,i2⟩,λc hc=>?_,q⟩
 have le:s1.heap.objs.size≤c:=by
  simp only[List.mem_cons,List.not_mem_nil,or_false] at hc
  first
   | (rcases hc with rfl | rfl | rfl | rfl | rfl <;> first | exact Nat.le_refl _ | exact Nat.le_add_right _ _)
   | (rcases hc with rfl | rfl <;> first | exact Nat.le_refl _ | exact Nat.le_add_right _ _)
 exact I1.fpOk le (I1.hok.fresh le)
end

def Itn (K:Fg) (a:Addr):It:=
  ⟨λi H=>∃ xs x,SqL K H a xs∧xs[i]?=some x,
   λi H v H'=>∃ T,H T=none∧v=.ref T∧∀ xs x,SqL K H a xs→xs[i]?=some x→H'=upd H T (.tup [.int i,x]),
   λi H=>∃ xs,SqL K H a xs∧xs.length≤i⟩
def zph (e it a:Addr) (i:Nat) (h:Heap):Prop:=(∃ old,IsEnum h e it ((i:Nat):Int) old)∧h.IsListIter it a i
theorem zk4 {P:Program}{w:World}{K:Fg}{elts:List Expr}{kx:Nat}{tpos:Pos}{e it:Addr}(a:Addr) (D:e≠it) :
  Turn P w K (.Tuple elts kx tpos) (Itn K a) [e,it] e (zph e it a) where
 mem:=by simp
 obj:=λi h st c hb=>by
  obtain⟨⟨old,he⟩,⟨o1,e1,c1,d1⟩⟩:=st
  simp only[List.mem_cons,List.not_mem_nil,or_false] at hb
  rcases hb with rfl | rfl
  ·exact⟨_,he,λv x=>by cases x⟩
  ·exact⟨_,e1,λv x=>by rw[d1] at x;cases x⟩
 keep:=λi h h' st k=>by
  obtain⟨⟨old,he⟩,h1⟩:=st
  exact⟨⟨old,k e (by simp) _ he⟩,h1.at λo e=>k it (by simp) o e⟩
 item:=by
  intro X hP hw hK hc i pins s σ H E I hf st hg
  subst hP hw hK
  obtain⟨xs,x,hx,ex⟩:=hg
  obtain⟨its,rx,px,zx⟩:=I.list hx
  obtain⟨u,eu,ru⟩:=rx.get ex
  obtain⟨⟨old,he⟩,h1⟩:=id st
  refine wpAny_pyNext_enum_item he h1 px.isList (x:=u) (by simpa using eu) D λh' z1 l1 t1 sz k1=>?_
  refine⟨_,rfl,wpAny_letOwnedTupleGo_enum (s:={s with heap:=h',toks:=s.toks+1}) z1 λh'' z2 sb=>?_⟩
  have nT:H s.heap.objs.size=none:=I.hok.fresh (Nat.le_refl _)
  have IT:Inv X pins σ (upd H s.heap.objs.size (.tup [.int i,x])) {s with heap:=s.heap.push {cls:=.type "tuple",data:=.seq #[.int i s.toks,u]},toks:=s.toks}:=
   I.laid (λb o e=>Heap.get?_push_of_some _ e) (Nat.le_refl _) (show zbr X.prog X.w _ _ _ (.tup [.int i,x]) from ⟨by show 2≤sizeLine;decide,[.int i s.toks,u],.cons ⟨_,rfl⟩ (.cons ru .nil),IsTup.new _ _⟩)
  have fT:∀ c∈[e,it],FpOk X pins (upd H s.heap.objs.size (.tup [.int i,x])) c:=λc hcm=>by
   obtain⟨g0,gr⟩:=hf c hcm
   refine⟨?_,gr⟩
   obtain⟨o,ho,_⟩:∃ o,s.heap.get? c=some o∧True:=by
    simp only[List.mem_cons,List.not_mem_nil,or_false] at hcm
    rcases hcm with rfl | rfl
    ·exact⟨_,he,trivial⟩
    ·obtain⟨o,e,_⟩:=h1;exact⟨o,e,trivial⟩
   rw[zaj (Nat.ne_of_lt (Heap.lt_size ho))]
   exact g0
  have up:∀ c o,c∉[e,it]→(s.heap.push {cls:=.type "tuple",data:=.seq #[.int i s.toks,u]}).get? c=some o→h''.get? c=some o:=λc o hn e2=>by
   simp only[List.mem_cons,List.not_mem_nil,or_false,not_or] at hn
   refine sb.extBut c o hn.1 ?_
   by_cases hcs:c=s.heap.objs.size
   ·subst hcs
    rw[Heap.get?_push_size _ rfl] at e2
    cases e2
    exact t1
   ·refine k1 c o hn.1 hn.2 ?_
    rw[Heap.get?_push_ne _ _ _ hcs] at e2
    exact e2
  refine⟨.ref s.heap.objs.size,_,IT.turnedN (h':=h'') (t':=s.toks+1) fT up,rfl,⟨_,nT,rfl,λxs' x' q1 q3=>?_⟩,?_,λc hcm=>(fT c hcm).1⟩
  ·rw[I.list_inj q1 hx,ex] at q3
   cases q3;rfl
  ·refine⟨⟨_,by rw[show (((i+1:Nat):Nat):Int)=(i:Int)+1 by omega];exact z2⟩,l1.extBut sb.extBut (Ne.symm D)⟩
 done:=by
  intro X hP hw hK hc i pins s σ H E I hf st hg
  subst hP hw hK
  obtain⟨xs,hx,en⟩:=hg
  obtain⟨its,rx,px,zx⟩:=I.list hx
  obtain⟨⟨old,he⟩,h1⟩:=id st
  have hl:=rx.length
  exact wpAny_pyNext_enum_end (I.ok.hd hc) he h1 px.isList (by simp;omega) λh' k1=>⟨rfl,I.turnedN (t':=s.toks) hf λc o hn e2=>by
   simp only[List.mem_cons,List.not_mem_nil,or_false,not_or] at hn
   exact k1 c o hn.2 e2⟩
 self:=λ_ _ _ _ _ st h=>by
  obtain⟨⟨old,he⟩,_⟩:=st
  exact wpAny_pyIter_enum he h
def znT (K:Fg) (ta:TA):TI:=λσ H R=>ta σ H λvs H1=>∃ a xs,vs=[.ref a]∧H1 a=some (.lst xs)∧R (Itn K a) H1
section
variable {X : Cx}
theorem znU {elts:List Expr}{kx:Nat}{tpos:Pos}{a:Expr}{ta:TA}{p pos:Pos}(hg:Gl X "enumerate") (hm:X.mg "enumerate"=none) (ha:PA X [a] ta) (hs:starEach [a] X.env=[(false,eval a X.env)]:=by rfl) :
  PI X (.Tuple elts kx tpos) (.Call (.Name "enumerate" p) [a] [] pos) (znT X.K ta):=by
 intro pins s σ H R I h
 refine Call_ (zfc I hg hm zfY (PyProof.Rows.callWith_type1 (thn (ha pos pins s σ H _ I h) λus s1 ⟨vs,H1,I1,r1,q1⟩=>?_) hs rfl))
 obtain⟨l1,xs,e,hx,q⟩:=q1
 subst e
 obtain⟨u,e,ru⟩:=zik r1
 subst e
 cases ru
 obtain⟨z,its,n,r,hl,e⟩:=I1.lstM hx
 refine call_enumerate_1 e λh' z1 i1 sz k=>?_
 refine wpAny_pyIter_enum (s:={s1 with heap:=h'}) z1 ?_
 have I2:Inv X pins σ H1 {s1 with heap:=h',toks:=s1.toks}:=I1.kept k
 refine⟨_,_,_,_,H1,rfl,I2,zk4 l1 (e:=s1.heap.objs.size+1) (it:=s1.heap.objs.size) (Nat.succ_ne_self _),⟨⟨_,z1⟩,i1⟩,λc hc=>?_,q⟩
 have le:s1.heap.objs.size≤c:=by
  simp only[List.mem_cons,List.not_mem_nil,or_false] at hc
  first
   | (rcases hc with rfl | rfl | rfl | rfl | rfl <;> first | exact Nat.le_refl _ | exact Nat.le_add_right _ _)
   | (rcases hc with rfl | rfl <;> first | exact Nat.le_refl _ | exact Nat.le_add_right _ _)
 exact I1.fpOk le (I1.hok.fresh le)
end

section
variable {X : Cx}
theorem zk5 {bs:List Bool}{its:List Value}(r:Vals (bs.map V.bl) its) {i:Nat}{v:Value}(e:its[i]?=some v):∃ b,bs[i]?=some b∧v=.bool b:=by
 have hl:=r.length
 rw[zlm] at hl
 have hi:i<bs.length:=by
  have:=(zge.mp e).1
  omega
 obtain⟨u,hu,ru⟩:=r.get (i:=i) (x:=V.bl bs[i]) (by simp[hi])
 rw[e] at hu;cases hu
 exact⟨bs[i],by simp[hi],ru⟩
theorem zk6 {bs:List Bool}{n:Nat}(h:n=bs.length):(List.range n).all (λi=>bs[i]?.getD false)=bs.all id:=by
 subst h
 rw[Bool.eq_iff_iff]
 simp only[List.all_eq_true,List.mem_range,id]
 constructor
 ·intro q x hx
  obtain⟨i,hi,rfl⟩:=List.getElem_of_mem hx
  have:=q i hi
  simpa [hi] using this
 ·intro q i hi
  simpa [hi] using q bs[i] (List.getElem_mem hi)
theorem zmi (hc:X.calm=true):zcu X (.builtin "all") (λxs H Q=>∃ (p:Addr) (bs:List Bool),xs=[.ref p]∧SqL X.K H p (bs.map V.bl)∧Q (.bl (bs.all id)) H):=by
 intro pins s σ H xs us Q I r h
 obtain⟨p,bs,rfl,hq,q⟩:=h
 obtain⟨u,rfl,rx⟩:=zik r
 cases rx
 obtain⟨its,rv,pl,hz⟩:=I.list hq
 have hl:=rv.length
 rw[zlm] at hl
 refine call_all_walk (wpAny_pyIter_list pl.isList ?_)
 have hne:p≠s.heap.objs.size:=by
  obtain⟨o,ho,_⟩:=pl.isList
  exact Nat.ne_of_lt (Heap.lt_size ho)
 refine⟨s.heap.objs.size,_,_,_,_,_,λi=>bs[i]?.getD false,rfl,Walks.list (show X.A.in1.handled=none from I.ok.hd hc) s.heap.objs.size p hne its.toArray,⟨⟨_,Heap.get?_push_size _ rfl,rfl,rfl⟩,Heap.IsList.push pl.isList _⟩,λi v s' Q' E' hP hQ=>?_,λh' tk hk=>?_⟩
 ·obtain⟨b,hb,rfl⟩:=zk5 rv (i:=i) (v:=v) (by simpa using hP)
  refine wpAny_truthy_bool ?_
  simpa [hb] using hQ
 ·rw[zk6 (by rw[zst];exact hl.symm)]
  refine⟨.bl _,H,I.kept λb o e=>hk b o ?_ (Heap.get?_push_of_some _ e),rfl,q⟩
  simp only[List.mem_cons,List.not_mem_nil,or_false]
  exact Nat.ne_of_lt (Heap.lt_size e)
end
end L2

namespace L2
open PySem PySem.Spec PyProof.Rows PySem.SeqAt

inductive D where
 | non | bl (b:Bool) | int (i:Int) | str (x:Str) | lst (xs:List D) | tup (xs:List D)
mutual
def dep:D→Nat
 | .lst xs=>deps xs+1
 | .tup xs=>deps xs+1
 | _=>0
def deps:List D→Nat
 | []=>0
 | d::ds=>max (dep d) (deps ds)
end
mutual
def pyEq:D→D→Bool
 | .non,.non=>true
 | .bl a,.bl b=>a == b
 | .int a,.int b=>a == b
 | .bl a,.int b=>(if a then 1 else 0) == b
 | .int a,.bl b=>a == (if b then 1 else 0)
 | .str a,.str b=>a == b
 | .lst xs,.lst ys=>zbF xs ys
 | .tup xs,.tup ys=>zbF xs ys
 | _,_=>false
def zbF:List D→List D→Bool
 | [],[]=>true
 | x::xs,y::ys=>pyEq x y && zbF xs ys
 | _,_=>false
end
mutual
def Rep (K:Fg) (H:Hp):D→V→Prop
 | .non,v=>v=.non
 | .bl b,v=>v=.bl b
 | .int i,v=>v=.int i
 | .str x,v=>v=.str x
 | .lst ds,v=>∃ a xs,v=.ref a∧SqL K H a xs∧Reps K H ds xs
 | .tup ds,v=>∃ a xs,v=.ref a∧SqT K H a xs∧Reps K H ds xs
def Reps (K:Fg) (H:Hp):List D→List V→Prop
 | [],vs=>vs=[]
 | d::ds,vs=>∃ v r,vs=v::r∧Rep K H d v∧Reps K H ds r
end
theorem zd9:∀ {ds:List D}{d:D},d∈ds→dep d≤deps ds
 | d::ds,e,h=>by
  rcases List.mem_cons.mp h with h | h
  ·subst h;unfold deps;exact Nat.le_max_left _ _
  ·have:=zd9 h
   unfold deps
   exact Nat.le_trans this (Nat.le_max_right _ _)
theorem Reps.length {K:Fg}{H:Hp} : ∀ {ds:List D}{vs:List V},Reps K H ds vs→ds.length=vs.length
 | [],vs,h=>by unfold Reps at h;subst h;rfl
 | d::ds,vs,h=>by
  unfold Reps at h
  obtain⟨v,r,rfl,_,h⟩:=h
  simp[Reps.length h]
theorem Reps.get {K:Fg}{H:Hp} : ∀ {ds:List D}{vs:List V}{i:Nat}{d:D},Reps K H ds vs→ds[i]?=some d→∃ v,vs[i]?=some v∧Rep K H d v
 | [],vs,i,d,h,e=>by simp at e
 | c::ds,vs,i,d,h,e=>by
  unfold Reps at h
  obtain⟨v,r,rfl,h1,h⟩:=h
  cases i with
  | zero=>simp at e;subst e;exact⟨v,rfl,h1⟩
  | succ i=>
   obtain⟨w,e1,e2⟩:=Reps.get h (show ds[i]?=some d by simpa using e)
   exact⟨w,by simpa using e1,e2⟩
theorem Reps.get' {K:Fg}{H:Hp}{ds:List D}{vs:List V}{i:Nat}{v:V}(h:Reps K H ds vs) (e:vs[i]?=some v):∃ d,ds[i]?=some d∧Rep K H d v:=by
 have hl:=h.length
 have hi:=(zge.mp e).1
 obtain⟨w,e1,e2⟩:=h.get (i:=i) (d:=ds[i]) (by simp)
 rw[e] at e1;cases e1
 exact⟨ds[i],by simp,e2⟩
theorem Reps.ints {K:Fg}{H:Hp} : ∀ {ns:List Int}{vs:List V},Reps K H (ns.map D.int) vs↔vs=ns.map V.int
 | [],vs=>by unfold List.map Reps;rfl
 | n::ns,vs=>by
  rw[zmc]
  unfold Reps
  constructor
  ·rintro⟨v,r,rfl,h1,h⟩
   unfold Rep at h1
   subst h1
   rw[Reps.ints.mp h];rfl
  ·rintro rfl
   exact⟨_,_,rfl,by unfold Rep;rfl,Reps.ints.mpr rfl⟩
theorem Same.tup {K:Fg}{H H':Hp}{a:Addr}{xs:List V}(e:Same H H') (h:SqT K H a xs):SqT K H' a xs:=by
 rcases h with (h | ⟨o,h⟩) | h
 ·exact .inl (.inl (e _ _ h))
 ·exact .inl (.inr ⟨o,e _ _ h⟩)
 ·exact .inr h
mutual
theorem Rep.same {K:Fg}{H H':Hp}(e:Same H H'):∀ (d:D) {v:V},Rep K H d v→Rep K H' d v
 | .non,_,h=>by unfold Rep at *;exact h
 | .bl _,_,h=>by unfold Rep at *;exact h
 | .int _,_,h=>by unfold Rep at *;exact h
 | .str _,_,h=>by unfold Rep at *;exact h
 | .lst ds,_,h=>by
  unfold Rep at *
  obtain⟨a,xs,h1,h2,h3⟩:=h
  exact⟨a,xs,h1,e.seq h2,Reps.same e ds h3⟩
 | .tup ds,_,h=>by
  unfold Rep at *
  obtain⟨a,xs,h1,h2,h3⟩:=h
  exact⟨a,xs,h1,e.tup h2,Reps.same e ds h3⟩
theorem Reps.same {K:Fg}{H H':Hp}(e:Same H H'):∀ (ds:List D) {vs:List V},Reps K H ds vs→Reps K H' ds vs
 | [],_,h=>by unfold Reps at *;exact h
 | d::ds,_,h=>by
  unfold Reps at *
  obtain⟨v,r,h1,h2,h3⟩:=h
  exact⟨v,r,h1,Rep.same e d h2,Reps.same e ds h3⟩
end

mutual
theorem zdj:∀ d:D,pyEq d d=true
 | .non=>by unfold pyEq;rfl
 | .bl _=>by unfold pyEq;simp
 | .int _=>by unfold pyEq;simp
 | .str _=>by unfold pyEq;simp
 | .lst ds=>by unfold pyEq;exact zev ds
 | .tup ds=>by unfold pyEq;exact zev ds
theorem zev:∀ ds:List D,zbF ds ds=true
 | []=>by unfold zbF;rfl
 | d::ds=>by unfold zbF;rw[zdj d,zev ds];rfl
end
theorem zdk:∀ {xs ys:List D},zbF xs ys=true→xs.length=ys.length
 | [],[],_=>rfl
 | [],_::_,h=>by unfold zbF at h;cases h
 | _::_,[],h=>by unfold zbF at h;cases h
 | x::xs,y::ys,h=>by
  unfold zbF at h
  rw[Bool.and_eq_true] at h
  simp[zdk h.2]
theorem zdl:∀ {xs ys:List D},xs.length=ys.length→(List.range xs.length).all (λj=>pyEq (xs.getD j .non) (ys.getD j .non))=zbF xs ys
 | [],[],_=>by unfold zbF;rfl
 | x::xs,y::ys,h=>by
  have ih:=zdl (xs:=xs) (ys:=ys) (by simpa using h)
  unfold zbF
  rw[List.length_cons,List.range_succ_eq_map,List.all_cons,List.all_map,←ih]
  rfl
theorem zgn:∀ {ms ns:List Int},zbF (ms.map D.int) (ns.map D.int)=decide (ms=ns)
 | [],[]=>by unfold List.map zbF;rfl
 | [],_::_=>by rw[zmc];unfold List.map zbF;simp
 | _::_,[]=>by rw[zmc];unfold List.map zbF;simp
 | m::ms,n::ns=>by
  rw[zmc,zmc]
  unfold zbF pyEq
  rw[zgn,Bool.eq_iff_iff]
  simp
mutual
theorem Rep.inj {X:Cx}{pins:List (Addr × Obj)}{σ:St}{H:Hp}{s:Shared}(I:Inv X pins σ H s):∀ (d e:D) {v:V},Rep X.K H d v→Rep X.K H e v→d=e
 | .non,e,v,h,q=>by unfold Rep at h;subst h;cases e <;> unfold Rep at q <;> first | rfl | (cases q;done) | (obtain⟨_,_,q,_⟩:=q;cases q)
 | .bl _,e,v,h,q=>by unfold Rep at h;subst h;cases e <;> unfold Rep at q <;> first | (cases q;rfl) | (cases q;done) | (obtain⟨_,_,q,_⟩:=q;cases q)
 | .int _,e,v,h,q=>by unfold Rep at h;subst h;cases e <;> unfold Rep at q <;> first | (cases q;rfl) | (cases q;done) | (obtain⟨_,_,q,_⟩:=q;cases q)
 | .str _,e,v,h,q=>by unfold Rep at h;subst h;cases e <;> unfold Rep at q <;> first | (cases q;rfl) | (cases q;done) | (obtain⟨_,_,q,_⟩:=q;cases q)
 | .lst ds,e,v,h,q=>by
  unfold Rep at h
  obtain⟨a,xs,rfl,h1,h2⟩:=h
  cases e with
  | lst es=>
   unfold Rep at q
   obtain⟨b,ys,e1,q1,q2⟩:=q
   cases e1
   cases I.list_inj h1 q1
   rw[Reps.inj I ds es h2 q2]
  | tup es=>
   unfold Rep at q
   obtain⟨b,ys,e1,q1,q2⟩:=q
   cases e1
   obtain⟨_,_,p1,_⟩:=I.list h1
   obtain⟨_,_,p2,_⟩:=I.tuple q1
   exact absurd rfl (ne_of_list_tuple (s:=s) p1.isList p2)
  | _=>unfold Rep at q;cases q
 | .tup ds,e,v,h,q=>by
  unfold Rep at h
  obtain⟨a,xs,rfl,h1,h2⟩:=h
  cases e with
  | tup es=>
   unfold Rep at q
   obtain⟨b,ys,e1,q1,q2⟩:=q
   cases e1
   cases I.tuple_inj h1 q1
   rw[Reps.inj I ds es h2 q2]
  | lst es=>
   unfold Rep at q
   obtain⟨b,ys,e1,q1,q2⟩:=q
   cases e1
   obtain⟨_,_,p1,_⟩:=I.list q1
   obtain⟨_,_,p2,_⟩:=I.tuple h1
   exact absurd rfl (ne_of_list_tuple (s:=s) p1.isList p2)
  | _=>unfold Rep at q;cases q
theorem Reps.inj {X:Cx}{pins:List (Addr × Obj)}{σ:St}{H:Hp}{s:Shared}(I:Inv X pins σ H s):∀ (ds es:List D) {vs:List V},Reps X.K H ds vs→Reps X.K H es vs→ds=es
 | [],es,vs,h,q=>by
  unfold Reps at h;subst h
  cases es with
  | nil=>rfl
  | cons e es=>unfold Reps at q;obtain⟨_,_,q,_⟩:=q;cases q
 | d::ds,es,vs,h,q=>by
  unfold Reps at h
  obtain⟨v,r,rfl,h1,h2⟩:=h
  cases es with
  | nil=>unfold Reps at q;cases q
  | cons e es=>
   unfold Reps at q
   obtain⟨w,r',e1,q1,q2⟩:=q
   cases e1
   rw[Rep.inj I d e h1 q1,Reps.inj I ds es h2 q2]
end

section
variable {X : Cx} {pins : List (Addr × Obj)} {σ : St} {H : Hp} {s : Shared}
theorem zgI {d:D}{x:V}(h:Rep X.K H d x) (f:zdg x=true):(∃ b,d=.bl b∧x=.bl b)∨(∃ i,d=.int i∧x=.int i)∨(∃ z,d=.str z∧x=.str z)∨(d=.non∧x=.non):=by
 cases d with
 | non=>unfold Rep at h;exact .inr (.inr (.inr ⟨rfl,h⟩))
 | bl b=>unfold Rep at h;exact .inl ⟨b,rfl,h⟩
 | int b=>unfold Rep at h;exact .inr (.inl ⟨b,rfl,h⟩)
 | str b=>unfold Rep at h;exact .inr (.inr (.inl ⟨b,rfl,h⟩))
 | lst ds=>unfold Rep at h;obtain⟨a,xs,rfl,_⟩:=h;cases f
 | tup ds=>unfold Rep at h;obtain⟨a,xs,rfl,_⟩:=h;cases f
theorem zmj {d e:D}{x y:V}(h:Rep X.K H d x) (q:Rep X.K H e y) (fx:zdg x=true) (fy:zdg y=true):eqV x y=pyEq d e:=by
 rcases zgI h fx with ⟨b,rfl,rfl⟩ | ⟨b,rfl,rfl⟩ | ⟨b,rfl,rfl⟩ | ⟨rfl,rfl⟩ <;> rcases zgI q fy with ⟨c,rfl,rfl⟩ | ⟨c,rfl,rfl⟩ | ⟨c,rfl,rfl⟩ | ⟨rfl,rfl⟩ <;> unfold pyEq eqV <;> rfl
theorem ze3 {A:Around}{ds es:List D}{xs ys:List V}{us vs:List Value}(hd:Reps X.K H ds xs) (he:Reps X.K H es ys) (ru:Vals xs us) (rv:Vals ys vs)
  (ih:∀ (d e:D) (x y:V) (u v:Value),d∈ds→Rep X.K H d x→Rep X.K H e y→RelV x u→RelV y v→EqAt A s u v (pyEq d e)) :
  ∀ j (h1:j<us.toArray.size) (h2:j<vs.toArray.size),EqAt A s us.toArray[j] vs.toArray[j] (pyEq (ds.getD j .non) (es.getD j .non)):=by
 intro j h1 h2
 simp only[zst] at h1 h2
 have l1:=hd.length
 have l2:=he.length
 have l3:=ru.length
 have l4:=rv.length
 have j1:j<ds.length:=by omega
 have j2:j<es.length:=by omega
 obtain⟨x,ex,rx⟩:=hd.get (i:=j) (d:=ds[j]) (by simp[j1])
 obtain⟨y,ey,ry⟩:=he.get (i:=j) (d:=es[j]) (by simp[j2])
 obtain⟨u,eu,ru'⟩:=ru.get ex
 obtain⟨v,ev,rv'⟩:=rv.get ey
 have e1:us.toArray[j]=u:=by
  obtain⟨_,q⟩:=zge.mp eu
  simpa using q
 have e2:vs.toArray[j]=v:=by
  obtain⟨_,q⟩:=zge.mp ev
  simpa using q
 rw[e1,e2,show ds.getD j .non=ds[j] by simp[List.getD,j1],show es.getD j .non=es[j] by simp[List.getD,j2]]
 exact ih _ _ x y u v (List.getElem_mem j1) rx ry ru' rv'
theorem znb (I:Inv X pins σ H s):∀ (n:Nat) (d e:D) (A:Around) (x y:V) (u v:Value),dep d≤n→A.units+n<cLine→Rep X.K H d x→Rep X.K H e y→RelV x u→RelV y v→EqAt A s u v (pyEq d e):=by
 intro n
 induction n with
 | zero=>
  intro d e A x y u v hn hu hd he ru rv
  have fx:zdg x=true:=by
   cases d with
   | non=>unfold Rep at hd;subst hd;rfl
   | bl b=>unfold Rep at hd;subst hd;rfl
   | int b=>unfold Rep at hd;subst hd;rfl
   | str b=>unfold Rep at hd;subst hd;rfl
   | lst ds=>unfold dep at hn;omega
   | tup ds=>unfold dep at hn;omega
  by_cases fy:zdg y=true
  ·rw[←zmj hd he fx fy]
   exact zm0 ru rv fx fy
  ·cases e with
   | non=>unfold Rep at he;subst he;exact absurd rfl fy
   | bl b=>unfold Rep at he;subst he;exact absurd rfl fy
   | int b=>unfold Rep at he;subst he;exact absurd rfl fy
   | str b=>unfold Rep at he;subst he;exact absurd rfl fy
   | lst es=>
    unfold Rep at he
    obtain⟨a,ys,rfl,hq,_⟩:=he
    cases rv
    obtain⟨_,_,p,_⟩:=I.list hq
    rcases zgI hd fx with ⟨b,rfl,rfl⟩ | ⟨b,rfl,rfl⟩ | ⟨b,rfl,rfl⟩ | ⟨rfl,rfl⟩
    ·cases ru;unfold pyEq;exact EqAt.bool_list b p.isList (by omega)
    ·obtain⟨t,rfl⟩:=ru;unfold pyEq;exact EqAt.int_list b t p.isList (by omega)
    ·obtain⟨t,rfl⟩:=ru;unfold pyEq;exact EqAt.str_list b t p.isList (by omega)
    ·cases ru;unfold pyEq;exact EqAt.none_list p.isList (by omega)
   | tup es=>
    unfold Rep at he
    obtain⟨a,ys,rfl,hq,_⟩:=he
    cases rv
    obtain⟨_,_,p,_⟩:=I.tuple hq
    rcases zgI hd fx with ⟨b,rfl,rfl⟩ | ⟨b,rfl,rfl⟩ | ⟨b,rfl,rfl⟩ | ⟨rfl,rfl⟩
    ·cases ru;unfold pyEq;exact EqAt.bool_tuple b p (by omega)
    ·obtain⟨t,rfl⟩:=ru;unfold pyEq;exact EqAt.int_tuple b t p (by omega)
    ·obtain⟨t,rfl⟩:=ru;unfold pyEq;exact EqAt.str_tuple b t p (by omega)
    ·cases ru;unfold pyEq;exact EqAt.none_tuple p (by omega)
 | succ n ih=>
  intro d e A x y u v hn hu hd he ru rv
  by_cases h0:dep d≤n
  ·exact ih d e A x y u v h0 (by omega) hd he ru rv
  ·cases d with
   | non=>unfold dep at h0;omega
   | bl b=>unfold dep at h0;omega
   | int b=>unfold dep at h0;omega
   | str b=>unfold dep at h0;omega
   | lst ds=>
    unfold dep at hn
    have hd0:=hd
    unfold Rep at hd
    obtain⟨a,xs,rfl,hx,rx⟩:=hd
    cases ru
    obtain⟨its,vx,px,zx⟩:=I.list hx
    cases e with
    | non=>unfold Rep at he;subst he;cases rv;unfold pyEq;exact EqAt.list_none px.isList (by omega)
    | bl b=>unfold Rep at he;subst he;cases rv;unfold pyEq;exact EqAt.list_bool b px.isList (by omega)
    | int b=>unfold Rep at he;subst he;obtain⟨t,rfl⟩:=rv;unfold pyEq;exact EqAt.list_int b t px.isList (by omega)
    | str b=>unfold Rep at he;subst he;obtain⟨t,rfl⟩:=rv;unfold pyEq;exact EqAt.list_str b t px.isList (by omega)
    | tup es=>
     unfold Rep at he
     obtain⟨b,ys,rfl,hy,ry⟩:=he
     cases rv
     obtain⟨jts,vy,py,zy⟩:=I.tuple hy
     unfold pyEq
     exact EqAt.list_tuple px.isList py (by omega)
    | lst es=>
     have he0:=he
     unfold Rep at he
     obtain⟨b,ys,rfl,hy,ry⟩:=he
     cases rv
     obtain⟨jts,vy,py,zy⟩:=I.list hy
     by_cases hab:a=b
     ·subst hab
      rw[Rep.inj I _ _ hd0 he0,zdj]
      exact EqAt.same _
     ·refine EqAt.of_refs hab ?_
      unfold pyEq
      have l1:=rx.length
      have l2:=ry.length
      have l3:=vx.length
      have l4:=vy.length
      by_cases hl:ds.length=es.length
      ·have q:=RcAt.lists (A:=A) (e:=λj=>pyEq (ds.getD j .non) (es.getD j .non)) px.isList py.isList (by simp only[zst];omega) (by omega)
        (ze3 rx ry vx vy λd e x y u v hm h1 h2 h3 h4=>ih d e A.in1 x y u v (Nat.le_trans (zd9 hm) (by omega)) (by show A.units+1+n<cLine;omega) h1 h2 h3 h4)
       rw[show its.toArray.size=ds.length by rw[zst];omega,zdl hl] at q
       exact q
      ·rw[show zbF ds es=false by
        cases h:zbF ds es with
        | false=>rfl
        | true=>exact absurd (zdk h) hl]
       exact RcAt.lists_lengths px.isList py.isList (by simp only[zst,bne_iff_ne];omega) (by omega)
   | tup ds=>
    unfold dep at hn
    have hd0:=hd
    unfold Rep at hd
    obtain⟨a,xs,rfl,hx,rx⟩:=hd
    cases ru
    obtain⟨its,vx,px,zx⟩:=I.tuple hx
    cases e with
    | non=>unfold Rep at he;subst he;cases rv;unfold pyEq;exact EqAt.tuple_none px (by omega)
    | bl b=>unfold Rep at he;subst he;cases rv;unfold pyEq;exact EqAt.tuple_bool b px (by omega)
    | int b=>unfold Rep at he;subst he;obtain⟨t,rfl⟩:=rv;unfold pyEq;exact EqAt.tuple_int b t px (by omega)
    | str b=>unfold Rep at he;subst he;obtain⟨t,rfl⟩:=rv;unfold pyEq;exact EqAt.tuple_str b t px (by omega)
    | lst es=>
     unfold Rep at he
     obtain⟨b,ys,rfl,hy,ry⟩:=he
     cases rv
     obtain⟨jts,vy,py,zy⟩:=I.list hy
     unfold pyEq
     exact EqAt.tuple_list px py.isList (by omega)
    | tup es=>
     have he0:=he
     unfold Rep at he
     obtain⟨b,ys,rfl,hy,ry⟩:=he
     cases rv
     obtain⟨jts,vy,py,zy⟩:=I.tuple hy
     by_cases hab:a=b
     ·subst hab
      rw[Rep.inj I _ _ hd0 he0,zdj]
      exact EqAt.same _
     ·refine EqAt.of_refs hab ?_
      unfold pyEq
      have l1:=rx.length
      have l2:=ry.length
      have l3:=vx.length
      have l4:=vy.length
      have q:=RcAt.tuples (A:=A) (e:=λj=>pyEq (ds.getD j .non) (es.getD j .non)) px py (by omega)
        (ze3 rx ry vx vy λd e x y u v hm h1 h2 h3 h4=>ih d e A.in1 x y u v (Nat.le_trans (zd9 hm) (by omega)) (by show A.units+1+n<cLine;omega) h1 h2 h3 h4)
      by_cases hl:ds.length=es.length
      ·rw[show min its.toArray.size jts.toArray.size=ds.length by rw[zst,zst];omega,zdl hl,show (its.toArray.size == jts.toArray.size)=true by rw[zst,zst,beq_iff_eq];omega,Bool.and_true] at q
       exact q
      ·rw[show zbF ds es=false by
        cases h:zbF ds es with
        | false=>rfl
        | true=>exact absurd (zdk h) hl]
       rw[show (its.toArray.size == jts.toArray.size)=false by rw[zst,zst,beq_eq_false_iff_ne];omega,Bool.and_false] at q
       exact q
theorem znc (I:Inv X pins σ H s) {n:Nat}{d e:D}{A:Around}{a b:Addr}(hn:dep d≤n) (hu:A.units+n<cLine) (hd:Rep X.K H d (.ref a)) (he:Rep X.K H e (.ref b)):RcAt A s (.ref a) (.ref b) (pyEq d e)∧RcNeAt A s (.ref a) (.ref b) (!pyEq d e):=by
 cases d with
 | non=>unfold Rep at hd;cases hd
 | bl _=>unfold Rep at hd;cases hd
 | int _=>unfold Rep at hd;cases hd
 | str _=>unfold Rep at hd;cases hd
 | lst ds=>
  unfold dep at hn
  unfold Rep at hd
  obtain⟨_,xs,e1,hx,rx⟩:=hd
  cases e1
  obtain⟨its,vx,px,zx⟩:=I.list hx
  cases e with
  | non=>unfold Rep at he;cases he
  | bl _=>unfold Rep at he;cases he
  | int _=>unfold Rep at he;cases he
  | str _=>unfold Rep at he;cases he
  | tup es=>
   unfold Rep at he
   obtain⟨_,ys,e1,hy,ry⟩:=he
   cases e1
   obtain⟨jts,vy,py,zy⟩:=I.tuple hy
   unfold pyEq
   exact⟨RcAt.list_tuple px.isList py (by omega),RcNeAt.list_tuple px.isList py (by omega)⟩
  | lst es=>
   unfold Rep at he
   obtain⟨_,ys,e1,hy,ry⟩:=he
   cases e1
   obtain⟨jts,vy,py,zy⟩:=I.list hy
   unfold pyEq
   have l1:=rx.length
   have l2:=ry.length
   have l3:=vx.length
   have l4:=vy.length
   by_cases hl:ds.length=es.length
   ·have it:=ze3 (s:=s) (A:=A.in1) rx ry vx vy λd e x y u v hm h1 h2 h3 h4=>znb I (n - 1) d e A.in1 x y u v (Nat.le_trans (zd9 hm) (by omega)) (by show A.units+1+(n - 1)<cLine;omega) h1 h2 h3 h4
    have q:=RcAt.lists (A:=A) px.isList py.isList (by simp only[zst];omega) (by omega) it
    have q2:=RcNeAt.lists (A:=A) px.isList py.isList (by simp only[zst];omega) (by omega) it
    rw[show its.toArray.size=ds.length by rw[zst];omega,zdl hl] at q q2
    exact⟨q,q2⟩
   ·rw[show zbF ds es=false by
     cases h:zbF ds es with
     | false=>rfl
     | true=>exact absurd (zdk h) hl]
    exact⟨RcAt.lists_lengths px.isList py.isList (by simp only[zst,bne_iff_ne];omega) (by omega),RcNeAt.lists_lengths px.isList py.isList (by simp only[zst,bne_iff_ne];omega) (by omega)⟩
 | tup ds=>
  unfold dep at hn
  unfold Rep at hd
  obtain⟨_,xs,e1,hx,rx⟩:=hd
  cases e1
  obtain⟨its,vx,px,zx⟩:=I.tuple hx
  cases e with
  | non=>unfold Rep at he;cases he
  | bl _=>unfold Rep at he;cases he
  | int _=>unfold Rep at he;cases he
  | str _=>unfold Rep at he;cases he
  | lst es=>
   unfold Rep at he
   obtain⟨_,ys,e1,hy,ry⟩:=he
   cases e1
   obtain⟨jts,vy,py,zy⟩:=I.list hy
   unfold pyEq
   exact⟨RcAt.tuple_list px py.isList (by omega),RcNeAt.tuple_list px py.isList (by omega)⟩
  | tup es=>
   unfold Rep at he
   obtain⟨_,ys,e1,hy,ry⟩:=he
   cases e1
   obtain⟨jts,vy,py,zy⟩:=I.tuple hy
   unfold pyEq
   have l1:=rx.length
   have l2:=ry.length
   have l3:=vx.length
   have l4:=vy.length
   have it:=ze3 (s:=s) (A:=A.in1) rx ry vx vy λd e x y u v hm h1 h2 h3 h4=>znb I (n - 1) d e A.in1 x y u v (Nat.le_trans (zd9 hm) (by omega)) (by show A.units+1+(n - 1)<cLine;omega) h1 h2 h3 h4
   have q:=RcAt.tuples (A:=A) px py (by omega) it
   have q2:=RcNeAt.tuples (A:=A) px py (by omega) it
   by_cases hl:ds.length=es.length
   ·rw[show min its.toArray.size jts.toArray.size=ds.length by rw[zst,zst];omega,zdl hl,show (its.toArray.size == jts.toArray.size)=true by rw[zst,zst,beq_iff_eq];omega,Bool.and_true] at q q2
    exact⟨q,q2⟩
   ·rw[show zbF ds es=false by
     cases h:zbF ds es with
     | false=>rfl
     | true=>exact absurd (zdk h) hl]
    rw[show (its.toArray.size == jts.toArray.size)=false by rw[zst,zst,beq_eq_false_iff_ne];omega,Bool.and_false] at q q2
    exact⟨q,q2⟩
end

def rEqD (K:Fg) (neg:Bool):R2:=λx y H Q=>∃ a b d e,x=.ref a∧y=.ref b∧Rep K H d (.ref a)∧Rep K H e (.ref b)∧dep d≤60∧Q (.bl (if neg then !pyEq d e else pyEq d e)) H
section
variable {X : Cx} {k : Nat}
theorem zpi (hr:Room k X.A):OpR X (compareOp .Eq) (rEqD X.K false):=by
 intro pins s σ H x y v u Q I rx ry h
 obtain⟨a,b,d,e,rfl,rfl,hd,he,hn,q⟩:=h
 cases rx;cases ry
 exact (znc I (A:=X.A) hn (by have:=hr.units;omega) hd he).1 X.prog X.w X.xe _ ⟨.bl _,H,I,rfl,q⟩
theorem zpj (hr:Room k X.A):OpR X (compareOp .NotEq) (rEqD X.K true):=by
 intro pins s σ H x y v u Q I rx ry h
 obtain⟨a,b,d,e,rfl,rfl,hd,he,hn,q⟩:=h
 cases rx;cases ry
 exact (znc I (A:=X.A) hn (by have:=hr.units;omega) hd he).2 X.prog X.w X.xe _ ⟨.bl _,H,I,rfl,q⟩
theorem zit:zcu X (.builtin "isinstance") (λxs H Q=>∃ x c t b,xs=[x,.ty c]∧TyOf X.K H x t∧PySem.W.kitOne X.K t (.type c)=some b∧Q (.bl b) H):=by
 intro pins s σ H xs us Q I r h
 obtain⟨x,c,t,b,rfl,ty,e,q⟩:=h
 obtain⟨u,v,rfl,ru,rv⟩:=znA r
 cases rv
 exact zkH I ru ty e λtk=>⟨.bl b,H,I.tok tk,rfl,q⟩
end
end L2

namespace L2
open PySem PySem.Spec PyProof.Rows

mutual
def RepF (H:Hp):D→V→List Addr→Prop
 | .non,v,fp=>v=.non∧fp=[]
 | .bl b,v,fp=>v=.bl b∧fp=[]
 | .int i,v,fp=>v=.int i∧fp=[]
 | .str x,v,fp=>v=.str x∧fp=[]
 | .lst ds,v,fp=>∃ a xs r,v=.ref a∧fp=a::r∧H a=some (.lst xs)∧zak H ds xs r
 | .tup ds,v,fp=>∃ a xs,v=.ref a∧H a=some (.tup xs)∧zak H ds xs fp
def zak (H:Hp):List D→List V→List Addr→Prop
 | [],vs,fp=>vs=[]∧fp=[]
 | d::ds,vs,fp=>∃ v r f g,vs=v::r∧fp=f++g∧RepF H d v f∧zak H ds r g
end
mutual
theorem RepF.rep {K:Fg}{H:Hp} : ∀ (d:D) {v:V}{fp:List Addr},RepF H d v fp→Rep K H d v
 | .non,_,_,h=>by unfold RepF at h;unfold Rep;exact h.1
 | .bl _,_,_,h=>by unfold RepF at h;unfold Rep;exact h.1
 | .int _,_,_,h=>by unfold RepF at h;unfold Rep;exact h.1
 | .str _,_,_,h=>by unfold RepF at h;unfold Rep;exact h.1
 | .lst ds,_,_,h=>by
  unfold RepF at h;unfold Rep
  obtain⟨a,xs,r,h1,_,h2,h3⟩:=h
  exact⟨a,xs,h1,SqL.of h2,zak.reps ds h3⟩
 | .tup ds,_,_,h=>by
  unfold RepF at h;unfold Rep
  obtain⟨a,xs,h1,h2,h3⟩:=h
  exact⟨a,xs,h1,SqT.of h2,zak.reps ds h3⟩
theorem zak.reps {K:Fg}{H:Hp} : ∀ (ds:List D) {vs:List V}{fp:List Addr},zak H ds vs fp→Reps K H ds vs
 | [],_,_,h=>by unfold zak at h;unfold Reps;exact h.1
 | d::ds,_,_,h=>by
  unfold zak at h;unfold Reps
  obtain⟨v,r,f,g,h1,_,h2,h3⟩:=h
  exact⟨v,r,h1,RepF.rep d h2,zak.reps ds h3⟩
end
def Tups (H H':Hp):Prop:=∀ b xs,H b=some (.tup xs)→H' b=some (.tup xs)
theorem Same.tups {H H':Hp}(e:Same H H'):Tups H H':=λ_ _ h=>e _ _ h
theorem Tups.trans {H H1 H2:Hp}(a:Tups H H1) (b:Tups H1 H2):Tups H H2:=λc o h=>b c o (a c o h)
theorem ze4 {H:Hp}{a:Addr}{o:HO}(h:∀ xs,H a≠some (.tup xs)):Tups H (upd H a o):=λb xs e=>by rw[zaj (λz=>h xs (by rw[←z];exact e))];exact e
theorem zbC {H:Hp}{a:Addr}{o:HO}{ys:List V}(h:H a=some (.lst ys)):Tups H (upd H a o):=ze4 λxs e=>by rw[h] at e;cases e
mutual
theorem RepF.frame {H H':Hp}(tk:Tups H H'):∀ (d:D) {v:V}{fp:List Addr},(∀ a∈fp,H' a=H a)→RepF H d v fp→RepF H' d v fp
 | .non,_,_,_,h=>by unfold RepF at *;exact h
 | .bl _,_,_,_,h=>by unfold RepF at *;exact h
 | .int _,_,_,_,h=>by unfold RepF at *;exact h
 | .str _,_,_,_,h=>by unfold RepF at *;exact h
 | .lst ds,_,_,k,h=>by
  unfold RepF at *
  obtain⟨a,xs,r,h1,h0,h2,h3⟩:=h
  subst h0
  exact⟨a,xs,r,h1,rfl,(k a List.mem_cons_self).trans h2,zak.frame tk ds (λb hb=>k b (List.mem_cons_of_mem _ hb)) h3⟩
 | .tup ds,_,_,k,h=>by
  unfold RepF at *
  obtain⟨a,xs,h1,h2,h3⟩:=h
  exact⟨a,xs,h1,tk _ _ h2,zak.frame tk ds k h3⟩
theorem zak.frame {H H':Hp}(tk:Tups H H'):∀ (ds:List D) {vs:List V}{fp:List Addr},(∀ a∈fp,H' a=H a)→zak H ds vs fp→zak H' ds vs fp
 | [],_,_,_,h=>by unfold zak at *;exact h
 | d::ds,_,_,k,h=>by
  unfold zak at *
  obtain⟨v,r,f,g,h1,h0,h2,h3⟩:=h
  subst h0
  exact⟨v,r,f,g,h1,rfl,RepF.frame tk d (λb hb=>k b (List.mem_append_left _ hb)) h2,zak.frame tk ds (λb hb=>k b (List.mem_append_right _ hb)) h3⟩
end
mutual
theorem RepF.has {H:Hp} : ∀ (d:D) {v:V}{fp:List Addr},RepF H d v fp→∀ a∈fp,∃ o,H a=some o
 | .non,_,_,h,a,m=>by unfold RepF at h;rw[h.2] at m;cases m
 | .bl _,_,_,h,a,m=>by unfold RepF at h;rw[h.2] at m;cases m
 | .int _,_,_,h,a,m=>by unfold RepF at h;rw[h.2] at m;cases m
 | .str _,_,_,h,a,m=>by unfold RepF at h;rw[h.2] at m;cases m
 | .lst ds,_,_,h,b,m=>by
  unfold RepF at h
  obtain⟨a,xs,r,h1,h0,h2,h3⟩:=h
  subst h0
  rcases List.mem_cons.mp m with m | m
  ·subst m;exact⟨_,h2⟩
  ·exact zak.has ds h3 b m
 | .tup ds,_,_,h,b,m=>by
  unfold RepF at h
  obtain⟨a,xs,h1,h2,h3⟩:=h
  exact zak.has ds h3 b m
theorem zak.has {H:Hp} : ∀ (ds:List D) {vs:List V}{fp:List Addr},zak H ds vs fp→∀ a∈fp,∃ o,H a=some o
 | [],_,_,h,a,m=>by unfold zak at h;rw[h.2] at m;cases m
 | d::ds,_,_,h,b,m=>by
  unfold zak at h
  obtain⟨v,r,f,g,h1,h0,h2,h3⟩:=h
  subst h0
  rcases zma.mp m with m | m
  ·exact RepF.has d h2 b m
  ·exact zak.has ds h3 b m
end
theorem zak.length {H:Hp} : ∀ {ds:List D}{vs:List V}{fp:List Addr},zak H ds vs fp→ds.length=vs.length
 | [],_,_,h=>by unfold zak at h;rw[h.1];rfl
 | d::ds,_,_,h=>by
  unfold zak at h
  obtain⟨v,r,f,g,rfl,_,_,h3⟩:=h
  simp[zak.length h3]
theorem zak.snoc {H:Hp} : ∀ {ds:List D}{vs:List V}{fp:List Addr}{d:D}{v:V}{f:List Addr},zak H ds vs fp→RepF H d v f→zak H (ds++[d]) (vs++[v]) (fp++f)
 | [],_,_,d,v,f,h,q=>by
  unfold zak at h
  obtain⟨rfl,rfl⟩:=h
  show zak H [d] [v] ([]++f)
  unfold zak
  exact⟨v,[],f,[],rfl,by simp,q,by unfold zak;exact⟨rfl,rfl⟩⟩
 | c::ds,_,_,d,v,f,h,q=>by
  unfold zak at h
  obtain⟨u,r,f1,g1,rfl,rfl,h2,h3⟩:=h
  rw[List.cons_append,List.cons_append,List.append_assoc]
  unfold zak
  exact⟨u,_,f1,_,rfl,rfl,h2,zak.snoc h3 q⟩
theorem zak.ints {H:Hp} : ∀ {ns:List Int},zak H (ns.map D.int) (ns.map V.int) []
 | []=>by unfold List.map zak;exact⟨rfl,rfl⟩
 | n::ns=>by
  rw[zmc,zmc]
  unfold zak
  exact⟨_,_,[],[],rfl,rfl,by unfold RepF;exact⟨rfl,rfl⟩,zak.ints⟩
theorem zak.ints_eq {H:Hp} : ∀ {ns:List Int}{vs:List V}{fp:List Addr},zak H (ns.map D.int) vs fp→vs=ns.map V.int∧fp=[]
 | [],_,_,h=>by unfold List.map zak at h;exact h
 | n::ns,_,_,h=>by
  rw[zmc] at h
  unfold zak at h
  obtain⟨v,r,f,g,rfl,rfl,h1,h2⟩:=h
  unfold RepF at h1
  obtain⟨rfl,rfl⟩:=h1
  obtain⟨rfl,rfl⟩:=zak.ints_eq h2
  exact⟨rfl,rfl⟩
theorem zjh:∀ ns:List Int,dep (.lst (ns.map D.int))≤1
 | []=>by unfold List.map dep deps;exact Nat.le_refl _
 | n::ns=>by
  have ih:=zjh ns
  unfold dep at ih ⊢
  rw[zmc]
  unfold deps dep
  omega
def New (H H':Hp) (d:D) (v:V):Prop:=∃ fp,RepF H' d v fp∧fp.Nodup∧∀ a∈fp,H a=none
abbrev nums (ns:List Int):D:=.lst (ns.map D.int)
theorem New.rep {K:Fg}{H H':Hp}{d:D}{v:V}(h:New H H' d v):Rep K H' d v:=let ⟨_,h,_⟩:=h;RepF.rep d h
theorem New.int {H H':Hp}{i:Int} : New H H' (.int i) (.int i):=⟨[],by unfold RepF;exact⟨rfl,rfl⟩,List.nodup_nil,λ_ m=>by cases m⟩
theorem New.bl {H H':Hp}{i:Bool} : New H H' (.bl i) (.bl i):=⟨[],by unfold RepF;exact⟨rfl,rfl⟩,List.nodup_nil,λ_ m=>by cases m⟩
theorem New.str {H H':Hp}{i:Str} : New H H' (.str i) (.str i):=⟨[],by unfold RepF;exact⟨rfl,rfl⟩,List.nodup_nil,λ_ m=>by cases m⟩
theorem New.back {H0 H H':Hp}{d:D}{v:V}(e:Same H0 H) (h:New H H' d v):New H0 H' d v:=by
 obtain⟨fp,h1,h2,h3⟩:=h
 exact⟨fp,h1,h2,λa m=>e.free (h3 a m)⟩
theorem New.same {H H' H2:Hp}{d:D}{v:V}(e:Same H' H2) (h:New H H' d v):New H H2 d v:=by
 obtain⟨fp,h1,h2,h3⟩:=h
 refine⟨fp,RepF.frame e.tups d (λa m=>?_) h1,h2,h3⟩
 obtain⟨o,ho⟩:=RepF.has d h1 a m
 rw[ho,e a o ho]
theorem New.iif {H H':Hp}{ns:List Int}{v:V} : New H H' (nums ns) v↔∃ a,v=.ref a∧H a=none∧H' a=some (.lst (ns.map V.int)):=by
 constructor
 ·rintro⟨fp,h1,h2,h3⟩
  unfold RepF at h1
  obtain⟨a,xs,r,e1,e2,e3,e4⟩:=h1
  obtain⟨rfl,rfl⟩:=zak.ints_eq e4
  subst e2
  exact⟨a,e1,h3 a List.mem_cons_self,e3⟩
 ·rintro⟨a,e1,e2,e3⟩
  refine⟨[a],?_,by simp,λb m=>by rw[zms.mp m];exact e2⟩
  unfold RepF
  exact⟨a,_,[],e1,rfl,e3,zak.ints⟩
theorem zcf {K:Fg}{H:Hp}{ns:List Int}{v:V} : Rep K H (nums ns) v↔∃ a,v=.ref a∧SqL K H a (ns.map V.int):=by
 unfold Rep
 constructor
 ·rintro⟨a,xs,e1,e2,e3⟩
  rw[Reps.ints.mp e3] at e2
  exact⟨a,e1,e2⟩
 ·rintro⟨a,e1,e2⟩
  exact⟨a,_,e1,e2,Reps.ints.mpr rfl⟩
theorem zah {H:Hp}{p:Addr}(h:H p=none) (o:HO):Same H (upd H p o):=λb u q=>by rw[zaj (zam q h)];exact q
theorem New.lst {H1 H':Hp}{ds:List D}{vs:List V}{fp:List Addr}{a:Addr}(h:zak H' ds vs fp) (nd:fp.Nodup) (hf:∀ b∈fp,H1 b=none) (ha:H1 a=none) (na:a∉fp) (hH:H' a=some (.lst vs)):New H1 H' (.lst ds) (.ref a):=by
 refine⟨a::fp,?_,List.nodup_cons.mpr ⟨na,nd⟩,λb m=>?_⟩
 ·unfold RepF;exact⟨a,vs,fp,rfl,rfl,hH,h⟩
 ·rcases List.mem_cons.mp m with m | m
  ·subst m;exact ha
  ·exact hf b m
theorem New.tup {H1 H':Hp}{ds:List D}{vs:List V}{fp:List Addr}{a:Addr}(h:zak H' ds vs fp) (nd:fp.Nodup) (hf:∀ b∈fp,H1 b=none) (hH:H' a=some (.tup vs)):New H1 H' (.tup ds) (.ref a):=by
 refine⟨fp,?_,nd,hf⟩
 unfold RepF;exact⟨a,vs,rfl,hH,h⟩
structure Goes (J:It) (H1:Hp) (n:Nat) (P:Nat→V→Hp→Prop):Prop where
 go:∀ i H,i<n→Same H1 H→J.go i H
 stop:∀ H,Same H1 H→J.stop n H
 yld:∀ i H x H',i<n→Same H1 H→J.yld i H x H'→Same H H'∧P i x H'
theorem zbh {K:Fg}{a:Addr}{xs:List V}{H1:Hp}(h:SqL K H1 a xs):Goes (Itl K a) H1 xs.length (λi x _=>xs[i]?=some x) where
 go:=λi H hi e=>⟨xs,xs[i],e.seq h,by simp[hi]⟩
 stop:=λH e=>⟨xs,e.seq h,Nat.le_refl _⟩
 yld:=λi H x H' hi e q=>by
  obtain⟨rfl,q⟩:=q
  exact⟨Same.refl _,q xs (e.seq h)⟩
theorem zgJ {K:Fg}{a:Addr}{xs:List V}{H1:Hp}(h:SqT K H1 a xs):Goes (Itt K a) H1 xs.length (λi x _=>xs[i]?=some x) where
 go:=λi H hi e=>⟨xs,xs[i],e.tup h,by simp[hi]⟩
 stop:=λH e=>⟨xs,e.tup h,Nat.le_refl _⟩
 yld:=λi H x H' hi e q=>by
  obtain⟨rfl,q⟩:=q
  exact⟨Same.refl _,q xs (e.tup h)⟩
theorem zbZ {lo:Int}{n:Nat}{H1:Hp} : Goes (Itr lo n) H1 n (λi x _=>x=.int (lo+i)) where
 go:=λi H hi e=>hi
 stop:=λH e=>Nat.le_refl _
 yld:=λi H x H' hi e q=>by
  obtain⟨rfl,q⟩:=q
  exact⟨Same.refl _,q⟩
theorem zmk {K:Fg}{a b:Addr}{xs ys:List V}{H1:Hp}{n:Nat}(h:SqL K H1 a xs) (h2:SqL K H1 b ys) (hn:n=min xs.length ys.length) :
  Goes (Itz K a b) H1 n (λi v H=>∃ T x y,v=.ref T∧H T=some (.tup [x,y])∧xs[i]?=some x∧ys[i]?=some y) where
 go:=λi H hi e=>⟨xs,ys,xs[i]'(by omega),ys[i]'(by omega),e.seq h,e.seq h2,by simp,by simp⟩
 stop:=λH e=>⟨xs,ys,e.seq h,e.seq h2,by
  rcases Nat.le_total xs.length ys.length with z | z
  ·exact .inl (by simp;omega)
  ·exact .inr (by simp;omega)⟩
 yld:=λi H x H' hi e q=>by
  obtain⟨T,nT,rfl,q⟩:=q
  have i1:i<xs.length:=by omega
  have i2:i<ys.length:=by omega
  have:=q xs ys xs[i] ys[i] (e.seq h) (e.seq h2) (by simp) (by simp)
  subst this
  exact⟨zah nT _,T,_,_,rfl,zad,by simp,by simp⟩
theorem zk7 {K:Fg}{a:Addr}{xs:List V}{H1:Hp}(h:SqL K H1 a xs) :
  Goes (Itn K a) H1 xs.length (λi v H=>∃ T x,v=.ref T∧H T=some (.tup [.int i,x])∧xs[i]?=some x) where
 go:=λi H hi e=>⟨xs,xs[i],e.seq h,by simp[hi]⟩
 stop:=λH e=>⟨xs,e.seq h,Nat.le_refl _⟩
 yld:=λi H x H' hi e q=>by
  obtain⟨T,nT,rfl,q⟩:=q
  have:=q xs xs[i] (e.seq h) (by simp)
  subst this
  exact⟨zah nT _,T,_,rfl,zad,by simp⟩
def zji (J:It) (g:TG) (tt:TT) (te:TE) (σ0:St) (H1:Hp) (Q:VK):Prop:=∀ D,H1 D=none→
 ∃ W:Nat→Nat→List V→Hp→Prop,(∃ m,W 0 m [] (upd H1 D (.lst [])))∧∀ i m ys H,W i m ys H→H D=some (.lst ys)∧
  ((J.stop i H∧Q (.ref D) H)∨(J.go i H∧ys.length<sizeLine∧∃ N:List V→Hp→Prop,(∀ ys' H',N ys' H'→∃ m',m'<m∧W (i+1) m' ys' H')∧
   ∀ x H',J.yld i H x H'→g x σ0 H' λσ2 H2=>tt σ2 H2 λb H3=>if b=true then te σ2 H3 λy H4=>H4 D=some (.lst ys)∧N (ys++[y]) (upd H4 D (.lst (ys++[y]))) else N ys H3))
def zml (J:It) (g:TG) (tb:TS) (D:Ends) (σ:St) (H1:Hp):Prop:=∃ W:Nat→Nat→St→Hp→Prop,(∃ m,W 0 m σ H1)∧∀ i m σ H,W i m σ H→
 (J.stop i H∧D.nx σ H)∨(J.go i H∧∃ N:St→Hp→Prop,(∀ σ' H',N σ' H'→∃ m',m'<m∧W (i+1) m' σ' H')∧∀ x H',J.yld i H x H'→g x σ H' λσ2 H2=>tb {D with nx:=N,ct:=N,bk:=D.nx} σ2 H2)
theorem za8 {J:It}{H1:Hp}{n:Nat}{P:Nat→V→Hp→Prop}{g:TG}{te:TE}{σ0:St}{Q:VK}(wk:Goes J H1 n P) (ds:List D) (hn:ds.length=n) (hz:n≤sizeLine)
  (step:∀ i x d H' (R:VK),i<n→ds[i]?=some d→Same H1 H'→P i x H'→(∀ y H3,Same H' H3→New H' H3 d y→R y H3)→g x σ0 H' λσ2 H2=>te σ2 H2 R)
  (fin:∀ v H',Same H1 H'→New H1 H' (.lst ds) v→Q v H') :
  zji J g znS te σ0 H1 Q:=by
 intro Da hD
 refine⟨λi m ys H=>m=n - i∧i≤n∧Same H1 H∧H Da=some (.lst ys)∧∃ fp,zak H (ds.take i) ys fp∧fp.Nodup∧Da∉fp∧∀ b∈fp,H1 b=none,⟨n,rfl,Nat.zero_le _,zah hD _,zad,[],?_,List.nodup_nil,by simp,λ_ m=>by cases m⟩,?_⟩
 ·rw[List.take_zero];unfold zak;exact⟨rfl,rfl⟩
 rintro i m ys H ⟨rfl,hi,hs,hH,fp,hr,nd,na,hf⟩
 refine⟨hH,?_⟩
 have hl:=hr.length
 rw[List.length_take] at hl
 by_cases hlt:i<n
 ·refine .inr ⟨wk.go i H hlt hs,by omega,λys' H'=>(n - (i+1)<n - i∧i+1≤n∧Same H1 H'∧H' Da=some (.lst ys')∧∃ fp,zak H' (ds.take (i+1)) ys' fp∧fp.Nodup∧Da∉fp∧∀ b∈fp,H1 b=none),λys' H' ⟨q1,q2,q3,q4,q5⟩=>⟨n - (i+1),q1,rfl,q2,q3,q4,q5⟩,λx H' hy=>?_⟩
  obtain⟨s1,hp⟩:=wk.yld i H x H' hlt hs hy
  have hi':i<ds.length:=by omega
  refine step i x ds[i] H' _ hlt (by simp) (hs.trans s1) hp λy H3 s3 hn3=>?_
  have hD3:H3 Da=some (.lst ys):=s3 _ _ (s1 _ _ hH)
  refine⟨hD3,by omega,hlt,?_,zad,?_⟩
  ·intro b o e
   rw[zaj (zam e hD)]
   exact s3 _ _ (s1 _ _ (hs _ _ e))
  ·obtain⟨fq,h1,h2,h3⟩:=hn3
   have keep:∀ b∈fp,(upd H3 Da (.lst (ys++[y]))) b=H b:=λb hb=>by
    obtain⟨o,ho⟩:=zak.has _ hr b hb
    rw[zaj (show b≠Da from λz=>na (by rw[←z];exact hb)),ho]
    exact s3 _ _ (s1 _ _ ho)
   have nDq:Da∉fq:=λz=>by
    have:=h3 Da z
    rw[s1 _ _ hH] at this;cases this
   have tk2:Tups H3 (upd H3 Da (.lst (ys++[y]))):=zbC hD3
   have tk1:Tups H (upd H3 Da (.lst (ys++[y]))):=((s1.trans s3).tups).trans tk2
   have keep2:∀ b∈fq,(upd H3 Da (.lst (ys++[y]))) b=H3 b:=λb hb=>by rw[zaj (show b≠Da from λz=>nDq (by rw[←z];exact hb))]
   refine⟨fp++fq,?_,?_,?_,?_⟩
   ·have:=(zak.frame tk1 _ keep hr).snoc (RepF.frame tk2 _ keep2 h1)
    rw[List.take_add_one,show ds[i]?.toList=[ds[i]] by simp[hi']]
    exact this
   ·refine List.nodup_append.mpr ⟨nd,h2,λa ha b hb z=>?_⟩
    subst z
    obtain⟨o,ho⟩:=zak.has _ hr a ha
    have:=h3 a hb
    rw[s1 _ _ ho] at this;cases this
   ·exact λz=>(zma.mp z).elim na nDq
   ·intro b hb
    rcases zma.mp hb with z | z
    ·exact hf b z
    ·exact (hs.trans s1).free (h3 b z)
 ·have e:i=n:=by omega
  subst e
  refine .inl ⟨wk.stop H hs,fin _ _ hs ?_⟩
  rw[List.take_of_length_le (by omega)] at hr
  exact New.lst hr nd hf hD na hH
theorem zk8 {J:It}{H1:Hp}{n:Nat}{P:Nat→V→Hp→Prop}{g:TG}{tt:TT}{te:TE}{σ0:St}{Q:VK}(wk:Goes J H1 n P) (k:Nat→Bool) (d:Nat→D) (hz:n≤sizeLine)
  (step:∀ i x H' (R1:VK) (R2:Hp→Prop),i<n→Same H1 H'→P i x H'→(k i=true→∀ y H3,Same H' H3→New H' H3 (d i) y→R1 y H3)→(k i=false→∀ H3,Same H' H3→R2 H3)→
   g x σ0 H' λσ2 H2=>tt σ2 H2 λb H3=>if b=true then te σ2 H3 R1 else R2 H3)
  (fin:∀ v H',Same H1 H'→New H1 H' (.lst (((List.range n).filter k).map d)) v→Q v H') :
  zji J g tt te σ0 H1 Q:=by
 intro Da hD
 refine⟨λi m ys H=>m=n - i∧i≤n∧Same H1 H∧H Da=some (.lst ys)∧∃ fp,zak H (((List.range i).filter k).map d) ys fp∧fp.Nodup∧Da∉fp∧∀ b∈fp,H1 b=none,⟨n,rfl,Nat.zero_le _,zah hD _,zad,[],?_,List.nodup_nil,by simp,λ_ m=>by cases m⟩,?_⟩
 ·simp only[List.range_zero,List.filter_nil,List.map_nil];unfold zak;exact⟨rfl,rfl⟩
 rintro i m ys H ⟨rfl,hi,hs,hH,fp,hr,nd,na,hf⟩
 refine⟨hH,?_⟩
 have hl:=hr.length
 have hl2:((List.range i).filter k).length≤i:=by
  have:=List.length_filter_le k (List.range i)
  rwa [List.length_range] at this
 rw[zlm] at hl
 by_cases hlt:i<n
 ·refine .inr ⟨wk.go i H hlt hs,by omega,λys' H'=>(n - (i+1)<n - i∧i+1≤n∧Same H1 H'∧H' Da=some (.lst ys')∧∃ fp,zak H' (((List.range (i+1)).filter k).map d) ys' fp∧fp.Nodup∧Da∉fp∧∀ b∈fp,H1 b=none),λys' H' ⟨q1,q2,q3,q4,q5⟩=>⟨n - (i+1),q1,rfl,q2,q3,q4,q5⟩,λx H' hy=>?_⟩
  obtain⟨s1,hp⟩:=wk.yld i H x H' hlt hs hy
  refine step i x H' _ _ hlt (hs.trans s1) hp (λhk y H3 s3 hn3=>?_) (λhk H3 s3=>?_)
  ·have hD3:H3 Da=some (.lst ys):=s3 _ _ (s1 _ _ hH)
   refine⟨hD3,by omega,hlt,?_,zad,?_⟩
   ·intro b o e
    rw[zaj (zam e hD)]
    exact s3 _ _ (s1 _ _ (hs _ _ e))
   ·obtain⟨fq,h1,h2,h3⟩:=hn3
    have keep:∀ b∈fp,(upd H3 Da (.lst (ys++[y]))) b=H b:=λb hb=>by
     obtain⟨o,ho⟩:=zak.has _ hr b hb
     rw[zaj (show b≠Da from λz=>na (by rw[←z];exact hb)),ho]
     exact s3 _ _ (s1 _ _ ho)
    have nDq:Da∉fq:=λz=>by
     have:=h3 Da z
     rw[s1 _ _ hH] at this;cases this
    have tk2:Tups H3 (upd H3 Da (.lst (ys++[y]))):=zbC hD3
    have tk1:Tups H (upd H3 Da (.lst (ys++[y]))):=((s1.trans s3).tups).trans tk2
    have keep2:∀ b∈fq,(upd H3 Da (.lst (ys++[y]))) b=H3 b:=λb hb=>by rw[zaj (show b≠Da from λz=>nDq (by rw[←z];exact hb))]
    refine⟨fp++fq,?_,?_,?_,?_⟩
    ·have:=(zak.frame tk1 _ keep hr).snoc (RepF.frame tk2 _ keep2 h1)
     rw[List.range_succ,List.filter_append,List.map_append,List.filter_cons,hk]
     exact this
    ·refine List.nodup_append.mpr ⟨nd,h2,λa ha b hb z=>?_⟩
     subst z
     obtain⟨o,ho⟩:=zak.has _ hr a ha
     have:=h3 a hb
     rw[s1 _ _ ho] at this;cases this
    ·exact λz=>(zma.mp z).elim na nDq
    ·intro b hb
     rcases zma.mp hb with z | z
     ·exact hf b z
     ·exact (hs.trans s1).free (h3 b z)
  ·refine⟨by omega,hlt,hs.trans (s1.trans s3),s3 _ _ (s1 _ _ hH),fp,?_,nd,na,hf⟩
   rw[List.range_succ,List.filter_append,List.map_append,List.filter_cons,hk]
   simp only[Bool.false_eq_true,if_false,List.filter_nil,List.map_nil,List.append_nil]
   refine zak.frame (s1.trans s3).tups _ (λb hb=>?_) hr
   obtain⟨o,ho⟩:=zak.has _ hr b hb
   rw[ho]
   exact s3 _ _ (s1 _ _ ho)
 ·have e:i=n:=by omega
  subst e
  exact .inl ⟨wk.stop H hs,fin _ _ hs (New.lst hr nd hf hD na hH)⟩
theorem zfp {J:It}{H1:Hp}{n:Nat}{P:Nat→V→Hp→Prop}{g:TG}{tb:TS}{D:Ends}{σ:St}(wk:Goes J H1 n P) (Pv:Nat→St→Hp→Prop) (h0:Pv 0 σ H1) (hl:∀ i σ H,Pv i σ H→Same H1 H)
  (hs:∀ i x σ H H',i<n→Pv i σ H→Same H H'→P i x H'→g x σ H' λσ2 H2=>tb {D with nx:=Pv (i+1),ct:=Pv (i+1),bk:=D.nx} σ2 H2) (hd:∀ σ H,Pv n σ H→D.nx σ H) :
  zml J g tb D σ H1:=by
 refine⟨λi m σ H=>m=n - i∧i≤n∧Pv i σ H,⟨n,by simp,Nat.zero_le _,h0⟩,?_⟩
 rintro i m σ H ⟨rfl,hi,p⟩
 have e:=hl i σ H p
 by_cases hlt:i<n
 ·refine .inr ⟨wk.go i H hlt e,Pv (i+1),λσ' H' p'=>⟨n - (i+1),by omega,rfl,hlt,p'⟩,λx H' y=>?_⟩
  obtain⟨s1,hp⟩:=wk.yld i H x H' hlt e y
  exact hs i x σ H H' hlt p s1 hp
 ·have e':i=n:=by omega
  subst e'
  exact .inl ⟨wk.stop H e,hd σ H p⟩
end L2

namespace L2
open PySem PySem.Spec PyProof.Rows

inductive E3 {α1 α2 α3:Type}(p:α1→α2→α3→Prop):Prop
 | mk (a1:α1) (a2:α2) (a3:α3) (h:p a1 a2 a3):E3 p
inductive E7 {α1 α2 α3 α4 α5 α6 α7:Type}(p:α1→α2→α3→α4→α5→α6→α7→Prop):Prop
 | mk (a1:α1) (a2:α2) (a3:α3) (a4:α4) (a5:α5) (a6:α6) (a7:α7) (h:p a1 a2 a3 a4 a5 a6 a7):E7 p
inductive E9 {α1 α2 α3 α4 α5 α6 α7 α8 α9:Type}(p:α1→α2→α3→α4→α5→α6→α7→α8→α9→Prop):Prop
 | mk (a1:α1) (a2:α2) (a3:α3) (a4:α4) (a5:α5) (a6:α6) (a7:α7) (a8:α8) (a9:α9) (h:p a1 a2 a3 a4 a5 a6 a7 a8 a9):E9 p
inductive E11 {α1 α2 α3 α4 α5 α6 α7 α8 α9 α10 α11:Type}(p:α1→α2→α3→α4→α5→α6→α7→α8→α9→α10→α11→Prop):Prop
 | mk (a1:α1) (a2:α2) (a3:α3) (a4:α4) (a5:α5) (a6:α6) (a7:α7) (a8:α8) (a9:α9) (a10:α10) (a11:α11) (h:p a1 a2 a3 a4 a5 a6 a7 a8 a9 a10 a11):E11 p
inductive A3 (p1 p2 p3:Prop):Prop
 | mk (h1:p1) (h2:p2) (h3:p3):A3 p1 p2 p3
inductive A4 (p1 p2 p3 p4:Prop):Prop
 | mk (h1:p1) (h2:p2) (h3:p3) (h4:p4):A4 p1 p2 p3 p4
inductive A5 (p1 p2 p3 p4 p5:Prop):Prop
 | mk (h1:p1) (h2:p2) (h3:p3) (h4:p4) (h5:p5):A5 p1 p2 p3 p4 p5
inductive A6 (p1 p2 p3 p4 p5 p6:Prop):Prop
 | mk (h1:p1) (h2:p2) (h3:p3) (h4:p4) (h5:p5) (h6:p6):A6 p1 p2 p3 p4 p5 p6
inductive A7 (p1 p2 p3 p4 p5 p6 p7:Prop):Prop
 | mk (h1:p1) (h2:p2) (h3:p3) (h4:p4) (h5:p5) (h6:p6) (h7:p7):A7 p1 p2 p3 p4 p5 p6 p7
inductive A8 (p1 p2 p3 p4 p5 p6 p7 p8:Prop):Prop
 | mk (h1:p1) (h2:p2) (h3:p3) (h4:p4) (h5:p5) (h6:p6) (h7:p7) (h8:p8):A8 p1 p2 p3 p4 p5 p6 p7 p8
structure Fn (P:Program) (w:World) (K:Fg) (mg:Str→Option Value) (base:Heap) (x:Str) (ps:List Str) (k:Nat) (sp:Sp):Prop where
 ex:∃ f fd,FnOk P w K mg base CX0 k f fd ps sp∧zd6 K fd ps []∧PySem.W.keepIn K (.ref f)=true∧mg x=some (.ref f)
section
variable {X : Cx} {k j : Nat} {ps : List Str} {sp : Sp} {x : Str} {p pos : Pos} {e : Expr} {es : List Expr} {t : TA}
theorem zat (G:Fn X.prog X.w X.K X.mg X.base x ps j sp) (hr:Room k X.A) (hg:Gl X x) (ha:PA X (e::es) t) (hj:j≤k:=by decide) (hdb:(x == ("__debug__" : Str))=false:=by decide)
  (he:starEach (e::es) X.env=(false,eval e X.env)::starEach es X.env:=by rfl) (hpl:(backTo pos (starEach es X.env)).any (·.1)=false:=by rfl):PE X (.Call (.Name x p) (e::es) [] pos) (znF sp [] E0 t):=by
 obtain⟨f,fd,F,hb,hk,hm⟩:=G.ex
 exact znG (F.mono hj) hr hg hm hk hb .nil za5 ha hdb he hpl
end
theorem Fn.of {P:Program}{w:World}{K:Fg}{mg:Str→Option Value}{base:Heap}{x:Str}{st:Stmt}{f:Addr}{fd:FuncData}{N ps:List Str}{k:Nat}{sp:Sp}(F:Fun K x x st f fd) (S:FSc N ps (zai st)) (m:mg x=some (.ref f))
  (hb:∀ (kV doc pm:Value) (an:Option Addr) (cdv ct:Value) (us:List Value),us.length=ps.length→bindArgs (PySem.W.fnOf x x (zcW st) (zb7 st) (zai st) .none kV doc pm an cdv ct) ⟨us,[]⟩=pure (ps.zip us))
  (len:∀ vs H Q E,sp vs H Q E→vs.length=ps.length)
  (hbody:∀ (cdv:Value) (A:Around) (outer:List Env) (s:Shared) (H:Hp) (vs:List V) (Q:VK) (E:XK),Room k (A.deeper (envOfC x (zai st) s.heap.objs.size f cdv))→sp vs H Q E→
   ∃ t,PSs (cxOf CX0 P w K mg base N x (zai st) f cdv A outer s H E).nox (zb7 st) t∧t {nx:=λ_ H'=>Q .non H',rt:=Q} (start N vs) H):Fn P w K mg base x ps (k+1) sp:=
 ⟨f,fd,F.ok S len hbody,F.binds hb,F.kp,m⟩
section
variable {X : Cx} {k : Nat}
def zk9 (K:Fg):R2:=λx y H Q=>rI0 (λi j=>.int (i+j)) x y H Q∨rCat x y H Q∨zo1 K x y H Q
theorem znV:OpR X (binaryOp .Add) (zk9 X.K):=zoS.or (zo6.or znI)
def znd:R2:=λx y H Q=>rI CMul (λi j=>.int (i * j)) x y H Q∨rRep x y H Q
theorem zbm:OpR X (binaryOp .Mult) znd:=zoT.or zo7
def rEqA (K:Fg):R2:=λx y H Q=>rEq x y H Q∨rEqD K false x y H Q
def rNeA (K:Fg):R2:=λx y H Q=>rNe x y H Q∨rEqD K true x y H Q
theorem zpk (hr:Room k X.A):OpR X (compareOp .Eq) (rEqA X.K):=zny.or (zpi hr)
theorem zpl (hr:Room k X.A):OpR X (compareOp .NotEq) (rNeA X.K):=op_ne.or (zpj hr)
end

def rLen (K:Fg):List V→Hp→VK→Prop:=λxs H Q=>∃ p ys,xs=[.ref p]∧(SqL K H p ys∨SqT K H p ys)∧Q (.int ys.length) H
def ziu (K:Fg):List V→Hp→VK→Prop:=λxs H Q=>∃ p ys,xs=[.ref p]∧(SqL K H p ys∨SqT K H p ys)∧∀ l,H l=none→Q (.ref l) (upd H l (.lst ys))
def zla (K:Fg):List V→Hp→VK→Prop:=λxs H Q=>∃ p ys,xs=[.ref p]∧((SqL K H p ys∧∀ l,H l=none→Q (.ref l) (upd H l (.tup ys)))∨(SqT K H p ys∧Q (.ref p) H))
def rIsi (K:Fg):List V→Hp→VK→Prop:=λxs H Q=>∃ x c t b,xs=[x,.ty c]∧TyOf K H x t∧PySem.W.kitOne K t (.type c)=some b∧Q (.bl b) H
def rAll (K:Fg):List V→Hp→VK→Prop:=λxs H Q=>∃ (p:Addr) (bs:List Bool),xs=[.ref p]∧SqL K H p (bs.map V.bl)∧Q (.bl (bs.all id)) H
def rMax:List V→Hp→VK→Prop:=λxs H Q=>∃ i j,xs=[.int i,.int j]∧Q (.int (if j>i then j else i)) H
section
variable {X : Cx}
theorem c_len:zcu X (.builtin "len") (rLen X.K):=zhh
theorem zpm:zcu X (.type "list") (ziu X.K):=zhi
theorem znW:zcu X (.type "tuple") (zla X.K):=zgF
theorem c_isi:zcu X (.builtin "isinstance") (rIsi X.K):=zit
theorem c_all (hc:X.calm=true):zcu X (.builtin "all") (rAll X.K):=zmi hc
theorem c_max (hc:X.calm=true):zcu X (.builtin "max") rMax:=zkE hc
end

section
variable {K : Fg} {σ : St} {H : Hp} {Q : VK} {ta tb tc : TE} {D : Ends}
theorem zpn {i:Nat}{v:V}(h:σ[i]?=some (some v)) (q:Q v H):tVar i σ H Q:=⟨v,h,q⟩
theorem i_c {v:V}(q:Q v H):tC v σ H Q:=q
theorem i_op {r:R2}(h:ta σ H λx H1=>tb σ H1 λy H2=>r x y H2 Q):tOp r ta tb σ H Q:=h
theorem i_un {r:V→Hp→VK→Prop}(h:ta σ H λx H1=>r x H1 Q):tUn r ta σ H Q:=h
theorem i_rI0 {g:Int→Int→V}{i j:Int}(q:Q (g i j) H):rI0 g (.int i) (.int j) H Q:=⟨i,j,rfl,rfl,q⟩
theorem i_mod {i j:Int}(c:0<j) (q:Q (.int (i % j)) H):rI (λ_ j=>0<j) (λi j=>.int (i % j)) (.int i) (.int j) H Q:=⟨i,j,rfl,rfl,c,q⟩
theorem zmn (q:Q (.int 1000000000) H):rI CPow (λi j=>.int (i ^ j.toNat)) (.int 10) (.int 9) H Q:=⟨10,9,rfl,rfl,⟨by decide,by decide,by decide⟩,q⟩
theorem zpo {i j:Int}(c:0<j) (c2:j<1073741824) (q:Q (.int (i / j)) H):rI CDiv (λi j=>.int (i / j)) (.int i) (.int j) H Q:=⟨i,j,rfl,rfl,⟨c,c2⟩,q⟩
theorem i_pow {i j:Int}(c:0≤j) (c2:j≤1000000) (c3:i.natAbs<2 ^ 64) (q:Q (.int (i ^ j.toNat)) H):rI CPow (λi j=>.int (i ^ j.toNat)) (.int i) (.int j) H Q:=⟨i,j,rfl,rfl,⟨c,c2,c3⟩,q⟩
theorem i_rU {g:Int→V}{i:Int}(q:Q (g i) H):rU g (.int i) H Q:=⟨i,rfl,q⟩
theorem znX {i j:Int}(q:Q (.int (i+j)) H):zk9 K (.int i) (.int j) H Q:=.inl ⟨i,j,rfl,rfl,q⟩
theorem zb8 {a b:Addr}{xs ys:List V}(h1:H a=some (.lst xs)) (h2:H b=some (.lst ys)) (z:xs.length+ys.length≤sizeLine) (q:∀ p,H p=none→Q (.ref p) (upd H p (.lst (xs++ys)))):zk9 K (.ref a) (.ref b) H Q:=.inr (.inl ⟨a,b,xs,ys,rfl,rfl,h1,h2,z,q⟩)
theorem ze5 {i j:Int}(c:CMul i j) (q:Q (.int (i * j)) H):znd (.int i) (.int j) H Q:=.inl ⟨i,j,rfl,rfl,c,q⟩
theorem zpp {i j:Int}(q:Q (.bl (decide (i=j))) H):rEqA K (.int i) (.int j) H Q:=.inl ⟨rfl,by
 rw[show decide (V.int i=V.int j)=decide (i=j) by rw[decide_eq_decide];exact⟨λz=>by cases z;rfl,λz=>by rw[z]⟩];exact q⟩
theorem i_neI {i j:Int}(q:Q (.bl (!decide (i=j))) H):rNeA K (.int i) (.int j) H Q:=.inl ⟨rfl,by
 rw[show decide (V.int i=V.int j)=decide (i=j) by rw[decide_eq_decide];exact⟨λz=>by cases z;rfl,λz=>by rw[z]⟩];exact q⟩
theorem i_neB {i j:Bool}(q:Q (.bl (!decide (i=j))) H):rNeA K (.bl i) (.bl j) H Q:=.inl ⟨rfl,by
 rw[show decide (V.bl i=V.bl j)=decide (i=j) by rw[decide_eq_decide];exact⟨λz=>by cases z;rfl,λz=>by rw[z]⟩];exact q⟩
theorem i_eqS {i j:Str}(q:Q (.bl (decide (i=j))) H):rEqA K (.str i) (.str j) H Q:=.inl ⟨rfl,by
 rw[show decide (V.str i=V.str j)=decide (i=j) by rw[decide_eq_decide];exact⟨λz=>by cases z;rfl,λz=>by rw[z]⟩];exact q⟩
theorem znY {a b:Addr}{d e:L2.D}(h1:Rep K H d (.ref a)) (h2:Rep K H e (.ref b)) (n:dep d≤60) (q:Q (.bl (pyEq d e)) H):rEqA K (.ref a) (.ref b) H Q:=.inr ⟨a,b,d,e,rfl,rfl,h1,h2,n,q⟩
theorem i_neD {a b:Addr}{d e:L2.D}(h1:Rep K H d (.ref a)) (h2:Rep K H e (.ref b)) (n:dep d≤60) (q:Q (.bl (!pyEq d e)) H):rNeA K (.ref a) (.ref b) H Q:=.inr ⟨a,b,d,e,rfl,rfl,h1,h2,n,q⟩
theorem zpq {Q:Bool→Hp→Prop}(h:ta σ H λx H'=>∃ k,x=.bl k∧Q k H'):znz ta σ H Q:=h
theorem i_B {Q:Bool→Hp→Prop}(h:ta σ H λx H'=>∃ k,x=.bl k∧Q k H'):tB ta σ H Q:=h
theorem i_bl {P:Bool→Prop}{b:Bool}(h:P b):∃ k,V.bl b=.bl k∧P k:=⟨b,rfl,h⟩
theorem i_nil {Q:List V→Hp→Prop}(h:Q [] H):tNil σ H Q:=h
theorem zpr {Q:List V→Hp→Prop}{tr:TA}(h:ta σ H λx H1=>tr σ H1 λxs H2=>Q (x::xs) H2):zdf ta tr σ H Q:=h
theorem zps {sp:Sp}{t:TA}(h:t σ H λvs H1=>sp vs H1 Q E0):znF sp [] E0 t σ H Q:=by
 have e:(λ(vs:List V) (H1:Hp)=>sp (vs++[]) H1 Q E0)=λvs H1=>sp vs H1 Q E0:=by funext vs H1;rw[List.append_nil]
 show t σ H λvs H1=>sp (vs++[]) H1 Q E0
 rw[e];exact h
theorem i_CB {r:List V→Hp→VK→Prop}{t:TA}(h:t σ H λvs H1=>r vs H1 Q):tCB r t σ H Q:=h
theorem i_lst {t:TA}(h:t σ H λxs H1=>xs.length≤sizeLine∧∀ p,H1 p=none→Q (.ref p) (upd H1 p (.lst xs))):tLst t σ H Q:=h
theorem i_tup {t:TA}(h:t σ H λxs H1=>xs.length≤sizeLine∧∀ p,H1 p=none→Q (.ref p) (upd H1 p (.tup xs))):tTup t σ H Q:=h
theorem i_asg {g:TG}(h:ta σ H λx H1=>g x σ H1 D.nx):tAsg ta g D σ H:=h
theorem znZ {i:Nat}{v:V}{Q:St→Hp→Prop}(h:Q (σ.set i (some v)) H):zlV i v σ H Q:=h
theorem i_ret (h:ta σ H D.rt):tRet ta D σ H:=h
theorem zpt (h:ta σ H λ_ H1=>D.nx σ H1):znu ta D σ H:=h
theorem zpu (h:D.nx σ H):zlU D σ H:=h
theorem i_if {c:TT}(h:c σ H λb H1=>if b=true then ta σ H1 Q else tb σ H1 Q):tIf c ta tb σ H Q:=h
theorem zdX {a:Addr}{xs:List V}(h:SqL K H a xs∨SqT K H a xs) (q:Q (.int xs.length) H):rLen K [.ref a] H Q:=⟨a,xs,rfl,h,q⟩
theorem zaB {α:Type}{x:α}{xs:List α} : atI (x::xs) (0:Int)=some x:=zan (j:=0) rfl
theorem zaF {a:Addr}{xs:List V}{i:Int}{v:V}(h:SqL K H a xs) (e:atI xs i=some v) (q:Q v H):rIx K (.ref a) (.int i) H Q:=.inl ⟨a,xs,i,v,rfl,rfl,h,e,q⟩
theorem zaD {a:Addr}{xs:List V}{i:Int}{v:V}(h:SqT K H a xs) (e:atI xs i=some v) (q:Q v H):rIx K (.ref a) (.int i) H Q:=.inr (.inl ⟨a,xs,i,v,rfl,rfl,h,e,q⟩)
end
section
variable {K : Fg} {σ : St} {H : Hp} {Q : VK} {ta tb tc : TE} {D : Ends}
theorem zjW {p:Addr}{bs:List Bool}(h:SqL K H p (bs.map V.bl)) (q:Q (.bl (bs.all id)) H):rAll K [.ref p] H Q:=⟨p,bs,rfl,h,q⟩
theorem i_max {i j:Int}(q:Q (.int (if j>i then j else i)) H):rMax [.int i,.int j] H Q:=⟨i,j,rfl,q⟩
theorem zpv (h:ta σ H λx H1=>∃ c,x=.bl c∧if c=true then tb σ H1 Q else Q (.bl false) H1):zlT ta tb σ H Q:=h
theorem zpw (h:ta σ H λx H1=>∃ c,x=.bl c∧Q (.bl (!c)) H1):zoL ta σ H Q:=h
theorem i_and {t u:TT}{Q:Bool→Hp→Prop}(h:t σ H λc H1=>if c=true then u σ H1 Q else Q false H1):tAnd t u σ H Q:=h
theorem i_or {t u:TT}{Q:Bool→Hp→Prop}(h:t σ H λc H1=>if c=true then Q true H1 else u σ H1 Q):tOr t u σ H Q:=h
theorem i_not {t:TT}{Q:Bool→Hp→Prop}(h:t σ H λc H1=>Q (!c) H1):tNot t σ H Q:=h
theorem zea {x:V}{t:Value}{c:String}{b:Bool}(ty:TyOf K H x t) (e:PySem.W.kitOne K t (.type c)=some b) (q:Q (.bl b) H) :
  rIsi K [x,.ty c] H Q:=⟨x,c,t,b,rfl,ty,e,q⟩
theorem i_for {wi:TI}{g:TG}{tb:TS}(h:wi σ H λJ H1=>zml J g tb D σ H1):tFor wi g tb D σ H:=h
theorem zpx {ms:List Bool}{wi:TI}{g:TG}{tt:TT}{te:TE}(h:wi σ H λJ H1=>zji J g tt te (zcO ms σ) H1 Q):zmf ms wi g tt te σ H Q:=h
theorem zn0 {tl:TE}{R:It→Hp→Prop}(h:tl σ H λx H1=>∃ a,x=.ref a∧(∃ xs,SqL K H1 a xs)∧R (Itl K a) H1):znw K tl σ H R:=h
theorem zpy {tl:TE}{R:It→Hp→Prop}(h:tl σ H λx H1=>∃ a,x=.ref a∧(∃ xs,SqT K H1 a xs)∧R (Itt K a) H1):iTup K tl σ H R:=h
theorem i_zip {t:TA}{R:It→Hp→Prop}(h:t σ H λvs H1=>∃ a b,vs=[.ref a,.ref b]∧(∃ xs,SqL K H1 a xs)∧(∃ ys,SqL K H1 b ys)∧R (Itz K a b) H1):iZip K t σ H R:=h
theorem zpz {t:TA}{R:It→Hp→Prop}(h:t σ H λvs H1=>∃ a xs,vs=[.ref a]∧H1 a=some (.lst xs)∧R (Itn K a) H1):znT K t σ H R:=h
theorem zpA {t:TA}{R:It→Hp→Prop}(h:t σ H λvs H1=>∃ j:Int,vs=[.int j]∧-(2 ^ 62)≤j∧j<2 ^ 62∧R (Itr 0 j.toNat) H1):zoR t σ H R:=h
theorem zcZ {P:Int→Prop}{j:Int}(h1:-(2 ^ 62)≤j) (h2:j<2 ^ 62) (h:P j):∃ k:Int,[V.int j]=[.int k]∧-(2 ^ 62)≤k∧k<2 ^ 62∧P k:=⟨j,rfl,h1,h2,h⟩
theorem i_sl {r:V→Option Int→Option Int→Hp→VK→Prop}{tl th:TO}(h:ta σ H λx H1=>tl σ H1 λl H2=>th σ H2 λu H3=>r x l u H3 Q):tSl r ta tl th σ H Q:=h
theorem zmo {Q:Option Int→Hp→Prop}(h:Q none H):zkN σ H Q:=h
theorem zpB {Q:Option Int→Hp→Prop}(h:ta σ H λx H1=>∃ i,x=.int i∧Q (some i) H1):zoZ ta σ H Q:=h
theorem zn1 {P:Int→Prop}{i:Int}(h:P i):∃ j,V.int i=.int j∧P j:=⟨i,rfl,h⟩
theorem zpC {to ti:TE}{t:TSet}{v:V}{Q:St→Hp→Prop}(h:to σ H λo H1=>ti σ H1 λi H2=>t o i v H2 λH3=>Q σ H3):gSub to ti t v σ H Q:=h
theorem zbw {a:Addr}{xs:List V}{k:Int}{j:Nat}{v:V}{Q:Hp→Prop}(h:H a=some (.lst xs)) (e:ixN xs.length k=some j) (q:Q (upd H a (.lst (xs.set j v)))):zo5 (.ref a) (.int k) v H Q:=⟨a,xs,k,j,rfl,rfl,h,e,q⟩
theorem zeb {a:Addr}{ys:List V}(h:SqL K H a ys∨SqT K H a ys) (q:∀ l,H l=none→Q (.ref l) (upd H l (.lst ys))) :
  ziu K [.ref a] H Q:=⟨a,ys,rfl,h,q⟩
end
section
variable {X : Cx} {k : Nat} {pos : Pos}
theorem zaO (K:Fg) (hK:X.K=K:=by rfl):OpR X (binaryOp .Add) (zk9 K):=by subst hK;exact znV
theorem k_eq (K:Fg) (hr:Room k X.A) (hK:X.K=K:=by rfl):OpR X (compareOp .Eq) (rEqA K):=by subst hK;exact zpk hr
theorem k_ne (K:Fg) (hr:Room k X.A) (hK:X.K=K:=by rfl):OpR X (compareOp .NotEq) (rNeA K):=by subst hK;exact zpl hr
theorem k_in (K:Fg) (hK:X.K=K:=by rfl):OpR X (compareOp .In) (rIn K false):=by subst hK;exact zkP
theorem k_ix (K:Fg) (hK:X.K=K:=by rfl):IxR X (rIx K):=by subst hK;exact zo4
def rSl (K:Fg):V→Option Int→Option Int→Hp→VK→Prop:=λx lo hi H Q=>rSlL K x lo hi H Q∨rSlT K x lo hi H Q
theorem k_sl (K:Fg) (hK:X.K=K:=by rfl):SlR X (rSl K):=by subst hK;exact znL.or zo0
theorem zdY (K:Fg) (hK:X.K=K:=by rfl):zcu X (.builtin "len") (rLen K):=by subst hK;exact c_len
theorem zhr (K:Fg) (hK:X.K=K:=by rfl):zcu X (.type "list") (ziu K):=by subst hK;exact zpm
theorem zn2 (K:Fg) (hK:X.K=K:=by rfl):zcu X (.type "tuple") (zla K):=by subst hK;exact znW
theorem zhs (K:Fg) (hK:X.K=K:=by rfl):zcu X (.builtin "isinstance") (rIsi K):=by subst hK;exact c_isi
theorem zjX (K:Fg) (hc:X.calm=true) (hK:X.K=K:=by rfl):zcu X (.builtin "all") (rAll K):=by subst hK;exact c_all hc
theorem zbO (K:Fg) {tg l:Expr}{tl:TE}(hl:PE X l tl) (hK:X.K=K:=by rfl):PI X tg l (znw K tl):=by subst hK;exact znx hl
theorem zlb (K:Fg) {tg l:Expr}{tl:TE}(hl:PE X l tl) (hK:X.K=K:=by rfl):PI X tg l (iTup K tl):=by subst hK;exact zoQ hl
theorem zpD (K:Fg) {elts:List Expr}{kx:Nat}{tpos:Pos}{a b:Expr}{ta:TA}{p:Pos}(hg:Gl X "zip") (hm:X.mg "zip"=none) (ha:PA X [a,b] ta) (hK:X.K=K:=by rfl) (hs:starEach [a,b] X.env=[(false,eval a X.env),(false,eval b X.env)]:=by rfl) (hs2:starEach [b] X.env=[(false,eval b X.env)]:=by rfl) :
  PI X (.Tuple elts kx tpos) (.Call (.Name "zip" p) [a,b] [] pos) (iZip K ta):=by subst hK;exact zpg hg hm ha hs hs2
theorem zn3 (K:Fg) {elts:List Expr}{kx:Nat}{tpos:Pos}{a:Expr}{ta:TA}{p:Pos}(hg:Gl X "enumerate") (hm:X.mg "enumerate"=none) (ha:PA X [a] ta) (hK:X.K=K:=by rfl) (hs:starEach [a] X.env=[(false,eval a X.env)]:=by rfl) :
  PI X (.Tuple elts kx tpos) (.Call (.Name "enumerate" p) [a] [] pos) (znT K ta):=by subst hK;exact znU hg hm ha hs
theorem zlc (K:Fg) {es:List Expr}{kk:Nat}{t:TGs}{n:Nat}(hc:X.calm=true) (h:PGs X es t) (hK:X.K=K:=by rfl) (hn:(assignEach es X.env).length=n:=by rfl) (hst:(assignEach es X.env).findIdx? (·.1)=none:=by rfl) :
  PG X (.Tuple es kk pos) (gTup K n t):=by subst hK;exact zoO hc h hn hst
theorem zaI (K:Fg) {e:Expr}{f:Str}{ta:TE}(he:PE X e ta) (hb:attributeBase e f X.env (eval e X.env)=eval e X.env) (hK:X.K=K:=by rfl):PE X (.Attribute e f pos) (tFld K ta f):=by subst hK;exact zoW he hb
end
theorem zec {n:Nat}{f:Nat→D}{i:Nat}{d:D}(h:((List.range n).map f)[i]?=some d):d=f i:=by
 rw[zgm] at h
 obtain⟨j,hj,rfl⟩:=zme.mp h
 have hl:=(zge.mp hj).1
 rw[List.length_range] at hl
 have hi:i<n:=hl
 rw[List.getElem?_range hi] at hj
 cases hj;rfl
theorem zdm {X:Cx}{x:Str}{i:Int}{pos:Pos}(hg:Gl X x) (hm:∃ t,X.mg x=some (.int i t)) (hd:(x == ("__debug__" : Str))=false:=by decide):PE X (.Name x pos) (tC (.int i)):=by
 obtain⟨t,hm⟩:=hm
 exact zkr hg hm ⟨t,rfl⟩ hd
theorem iteNT {A B:Prop}(h:B):if (!true)=true then A else B:=iteF h
theorem iteNF {A B:Prop}(h:A):if (!false)=true then A else B:=iteT h
theorem zaC {n:Nat}(h:n≤1000):n≤sizeLine:=Nat.le_of_lt (zb3 h)
theorem sl {n:Nat}(h:Nat.ble n 1000=true):n≤sizeLine:=zaC (Nat.le_of_ble_eq_true h)
theorem i_bm {K:Fg}{σ:St}{H:Hp}{Q:VK}{T:String}{r:V→List V→Hp→VK→Prop}{to:TE}{t:TA}(h:to σ H λx H1=>tyV K T x H1∧t σ H1 λxs H2=>r x xs H2 Q):tBM K T r to t σ H Q:=h
theorem tyL {K:Fg}{H:Hp}{a:Addr}{xs:List V}(h:H a=some (.lst xs)):tyV K "list" (.ref a) H:=.inl ⟨rfl,_,SqL.of h⟩
theorem zmp {H:Hp}{Q:VK}{a:Addr}{xs:List V}{y:V}(h:H a=some (.lst xs)) (z:xs.length<sizeLine) (q:Q .non (upd H a (.lst (xs++[y])))):zkQ (.ref a) [y] H Q:=⟨a,xs,y,rfl,rfl,h,z,q⟩
theorem zak.bls_eq {H:Hp} : ∀ {bs:List Bool}{vs:List V}{fp:List Addr},zak H (bs.map D.bl) vs fp→vs=bs.map V.bl∧fp=[]
 | [],_,_,h=>by unfold List.map zak at h;exact h
 | n::ns,_,_,h=>by
  rw[zmc] at h
  unfold zak at h
  obtain⟨v,r,f,g,rfl,rfl,h1,h2⟩:=h
  unfold RepF at h1
  obtain⟨rfl,rfl⟩:=h1
  obtain⟨rfl,rfl⟩:=zak.bls_eq h2
  exact⟨rfl,rfl⟩
theorem New.bls {H H':Hp}{bs:List Bool}{v:V}(h:New H H' (.lst (bs.map D.bl)) v):∃ a,v=.ref a∧H a=none∧H' a=some (.lst (bs.map V.bl)):=by
 obtain⟨fp,h1,h2,h3⟩:=h
 unfold RepF at h1
 obtain⟨a,xs,r,e1,e2,e3,e4⟩:=h1
 obtain⟨rfl,rfl⟩:=zak.bls_eq e4
 subst e2
 exact⟨a,e1,h3 a List.mem_cons_self,e3⟩
theorem New.lso {H H':Hp}{ds:List D}{v:V}(h:New H H' (.lst ds) v):∃ a vs fp,v=.ref a∧H a=none∧H' a=some (.lst vs)∧zak H' ds vs fp∧fp.Nodup∧a∉fp∧∀ b∈fp,H b=none:=by
 obtain⟨fp,h1,h2,h3⟩:=h
 unfold RepF at h1
 obtain⟨a,xs,r,e1,e2,e3,e4⟩:=h1
 subst e2
 exact⟨a,xs,r,e1,h3 a List.mem_cons_self,e3,e4,(List.nodup_cons.mp h2).2,(List.nodup_cons.mp h2).1,λb m=>h3 b (List.mem_cons_of_mem _ m)⟩
theorem ziv {lo:Int}{n:Nat}{g:TG}{tb:TS}{D:Ends}{σ:St}{H:Hp}(Pv:Nat→St→Hp→Prop) (h0:Pv 0 σ H)
  (hs:∀ i σ H,i<n→Pv i σ H→g (.int (lo+i)) σ H λσ2 H2=>tb {D with nx:=Pv (i+1),ct:=Pv (i+1),bk:=D.nx} σ2 H2) (hd:∀ σ H,Pv n σ H→D.nx σ H):zml (Itr lo n) g tb D σ H:=zkx Pv h0 hs hd
theorem zld {K:Fg}{a:Addr}{xs:List V}{g:TG}{tb:TS}{D:Ends}{σ:St}{H:Hp}(Pv:Nat→St→Hp→Prop) (h0:Pv 0 σ H) (hl:∀ i σ H,i≤xs.length→Pv i σ H→SqL K H a xs)
  (hs:∀ i x σ H,xs[i]?=some x→Pv i σ H→g x σ H λσ2 H2=>tb {D with nx:=Pv (i+1),ct:=Pv (i+1),bk:=D.nx} σ2 H2) (hd:∀ σ H,Pv xs.length σ H→D.nx σ H):zml (Itl K a) g tb D σ H:=zlX Pv h0 hl hs hd
theorem zle {n:Nat} : ∀ {ds:List D},(∀ d∈ds,dep d≤n)→deps ds≤n
 | [],_=>by unfold deps;exact Nat.zero_le _
 | d::ds,h=>by
  unfold deps
  exact Nat.max_le.mpr ⟨h d List.mem_cons_self,zle λe he=>h e (List.mem_cons_of_mem _ he)⟩
theorem zht (ls:List (List Int)):dep (.lst (ls.map nums))≤2:=by
 unfold dep
 refine Nat.succ_le_succ (zle λd hd=>?_)
 obtain⟨l,_,rfl⟩:=zmm.mp hd
 exact zjh l
theorem zlf {K:Fg}{H:Hp}{Q:VK}{a b:Addr}{d:D}(h1:Rep K H d (.ref a)) (h2:Rep K H d (.ref b)) (n:dep d≤60) (q:Q (.bl true) H):rEqA K (.ref a) (.ref b) H Q:=znY h1 h2 n (by rw[zdj];exact q)
theorem zlg {K:Fg}{H:Hp}{Q:VK}{a b:Addr}{d:D}(h1:Rep K H d (.ref a)) (h2:Rep K H d (.ref b)) (n:dep d≤60) (q:Q (.bl false) H):rNeA K (.ref a) (.ref b) H Q:=i_neD h1 h2 n (by rw[zdj];exact q)
theorem boot_len:bootBuiltins "len"=some (.builtin "len"):=PySem.boot_len
theorem zb4:bootBuiltins "list"=some (.type "list"):=by decide +kernel
theorem zgo:bootBuiltins "tuple"=some (.type "tuple"):=by decide +kernel
theorem zgK:bootBuiltins "int"=some (.type "int"):=by decide +kernel
theorem zhu:bootBuiltins "bool"=some (.type "bool"):=by decide +kernel
theorem zaS:bootBuiltins "isinstance"=some (.builtin "isinstance"):=by decide +kernel
theorem zdC:bootBuiltins "all"=some (.builtin "all"):=by decide +kernel
theorem zmq:bootBuiltins "max"=some (.builtin "max"):=by decide +kernel
theorem zdD {K:Fg}{t:Value} : PySem.W.kitOne K t t=some true:=by unfold PySem.W.kitOne;simp
theorem zeL {K:Fg} : PySem.W.kitOne K (.type "int") (.type "bool")=some false:=by rfl
end L2

namespace L2
open PySem PySem.Spec PyProof.Rows
structure Mkr (P:Program) (w:World) (K:Fg) (mg:Str→Option Value) (base:Heap) (x:Str) (C:Addr) (ps:List Str) (k:Nat) (sp:Sp):Prop where
 ex:∃ f fd,Mk K C f∧FnOk P w K mg base CX0 k f fd ps sp∧zd6 K fd ps []∧mg x=some (.ref C)
section
variable {X : Cx} {k j : Nat} {C : Addr} {ps : List Str} {sp : Sp} {x : Str} {p pos : Pos} {e : Expr} {es : List Expr} {t : TA}
theorem zn4 (G:Mkr X.prog X.w X.K X.mg X.base x C ps j sp) (hr:Room k X.A) (hg:Gl X x) (ha:PA X (e::es) t) (hj:j+1≤k:=by decide) (hdb:(x == ("__debug__" : Str))=false:=by decide)
  (he:starEach (e::es) X.env=(false,eval e X.env)::starEach es X.env:=by rfl) (hpl:(backTo pos (starEach es X.env)).any (·.1)=false:=by rfl):PE X (.Call (.Name x p) (e::es) [] pos) (zhb C sp [] E0 t):=by
 obtain⟨f,fd,M,F,hb,hm⟩:=G.ex
 exact zkK M F (hr.mono hj) hg hm hb .nil za5 ha hdb he hpl
theorem zpE {σ:St}{H:Hp}{Q:VK}(h:t σ H λvs H1=>∀ y dx,H1 y=none→H1 dx=none→dx≠y→sp (.ref y::vs) (upd (upd H1 dx (.own y)) y (.ins C dx [])) (λv H2=>v=.non∧Q (.ref y) H2) E0):zhb C sp [] E0 t σ H Q:=by
 have e:(λ(vs:List V) (H1:Hp)=>∀ y dx,H1 y=none→H1 dx=none→dx≠y→sp (.ref y::(vs++[])) (upd (upd H1 dx (.own y)) y (.ins C dx [])) (λv H2=>v=.non∧Q (.ref y) H2) E0)
   = λvs H1=>∀ y dx,H1 y=none→H1 dx=none→dx≠y→sp (.ref y::vs) (upd (upd H1 dx (.own y)) y (.ins C dx [])) (λv H2=>v=.non∧Q (.ref y) H2) E0:=by funext vs H1;rw[List.append_nil]
 show t σ H λvs H1=>∀ y dx,H1 y=none→H1 dx=none→dx≠y→sp (.ref y::(vs++[])) (upd (upd H1 dx (.own y)) y (.ins C dx [])) (λv H2=>v=.non∧Q (.ref y) H2) E0
 rw[e];exact h
end
section
variable {K : Fg} {σ : St} {H : Hp} {Q : VK} {ta tv : TE} {D : Ends} {f : Str}
theorem i_fld (h:ta σ H λx H1=>FldI K f x H1 Q):tFld K ta f σ H Q:=h
theorem zpF (h:tv σ H λy H1=>ta σ H1 λx H2=>FldS K f y x H2 (D.nx σ)):sFld K ta tv f D σ H:=h
end
theorem zn5 {r r':R2}{σ:St}{H:Hp}{Q:VK}{ta tb tc:TE}(h:ta σ H λx H1=>tb σ H1 λy H2=>r x y H2 λz H3=>∃ k,z=.bl k∧if k=true then tc σ H3 λw H4=>r' y w H4 Q else Q (.bl false) H3):zkD r r' ta tb tc σ H Q:=h
theorem zak.nil {H:Hp} : zak H [] [] []:=by unfold zak;exact⟨rfl,rfl⟩
theorem zak.cint {H:Hp}{i:Int}{ds:List D}{xs:List V}{fp:List Addr}(h:zak H ds xs fp):zak H (.int i::ds) (.int i::xs) fp:=by
 unfold zak;exact⟨_,_,[],fp,rfl,rfl,by unfold RepF;exact⟨rfl,rfl⟩,h⟩
theorem zak.cstr {H:Hp}{i:Str}{ds:List D}{xs:List V}{fp:List Addr}(h:zak H ds xs fp):zak H (.str i::ds) (.str i::xs) fp:=by
 unfold zak;exact⟨_,_,[],fp,rfl,rfl,by unfold RepF;exact⟨rfl,rfl⟩,h⟩
theorem zak.cany {H:Hp}{d:D}{v:V}{f:List Addr}{ds:List D}{xs:List V}{fp:List Addr}(q:RepF H d v f) (h:zak H ds xs fp):zak H (d::ds) (v::xs) (f++fp):=by
 unfold zak;exact⟨_,_,f,fp,rfl,rfl,q,h⟩
theorem RepF.line {H:Hp}{a:Addr}{ns:List Int}(h:H a=some (.lst (ns.map V.int))):RepF H (nums ns) (.ref a) [a]:=by
 unfold RepF;exact⟨a,_,[],rfl,rfl,h,zak.ints⟩
theorem RepF.pair {H:Hp}{t:Addr}{i j:Int}(h:H t=some (.tup [.int i,.int j])):RepF H (.tup [.int i,.int j]) (.ref t) []:=by
 unfold RepF;exact⟨t,_,rfl,h,zak.nil.cint.cint⟩
theorem zhv {K:Fg} : PySem.W.kitOne K (.type "int") (.type "list")=some false:=by rfl
theorem zhw {K:Fg} : PySem.W.kitOne K (.type "str") (.type "list")=some false:=by rfl
theorem zfZ {K:Fg} : PySem.W.kitOne K (.type "tuple") (.type "list")=some false:=by rfl
theorem zmr {K:Fg}{H:Hp}{Q:VK}{a:Addr}{ys:List V}(h:SqL K H a ys) (q:∀ l,H l=none→Q (.ref l) (upd H l (.tup ys))):zla K [.ref a] H Q:=⟨a,ys,rfl,.inl ⟨h,q⟩⟩
theorem i_in {K:Fg}{H:Hp}{Q:VK}{neg:Bool}{x:V}{a:Addr}{xs:List V}(h:SqL K H a xs∨SqT K H a xs) (f1:zdg x=true) (f2:xs.all zdg=true) (q:Q (.bl (if neg then !inV x xs else inV x xs)) H):rIn K neg x (.ref a) H Q:=⟨a,xs,rfl,h,f1,f2,q⟩
theorem zcI {X:Cx}{x:Str}{a:Addr}{pos:Pos}(hg:Gl X x) (hm:X.mg x=some (.ref a)) (hd:(x == ("__debug__" : Str))=false:=by decide):PE X (.Name x pos) (tC (.ref a)):=zkr hg hm rfl hd
def News (H H':Hp) (ds:List D) (vs:List V):Prop:=∃ fp,zak H' ds vs fp∧fp.Nodup∧∀ a∈fp,H a=none
theorem News.nil {H H':Hp} : News H H' [] []:=⟨[],zak.nil,List.nodup_nil,λ_ m=>by cases m⟩
theorem News.same {H H1 H2:Hp}{ds:List D}{vs:List V}(e:Same H1 H2) (h:News H H1 ds vs):News H H2 ds vs:=by
 obtain⟨fp,h1,h2,h3⟩:=h
 refine⟨fp,zak.frame e.tups ds (λa m=>?_) h1,h2,h3⟩
 obtain⟨o,ho⟩:=zak.has ds h1 a m
 rw[ho,e a o ho]
theorem News.snoc {H H1 H2:Hp}{ds:List D}{vs:List V}{d:D}{v:V}(h:News H H1 ds vs) (e:Same H H1) (e2:Same H1 H2) (n:New H1 H2 d v):News H H2 (ds++[d]) (vs++[v]):=by
 obtain⟨fp,h1,h2,h3⟩:=h
 obtain⟨fq,g1,g2,g3⟩:=n
 have keep:∀ a∈fp,H2 a=H1 a:=λa m=>by
  obtain⟨o,ho⟩:=zak.has ds h1 a m
  rw[ho,e2 a o ho]
 refine⟨fp++fq,(zak.frame e2.tups ds keep h1).snoc g1,List.nodup_append.mpr ⟨h2,g2,λa ha b hb z=>?_⟩,λa m=>?_⟩
 ·subst z
  obtain⟨o,ho⟩:=zak.has ds h1 a ha
  have:=g3 a hb
  rw[ho] at this;cases this
 ·rcases zma.mp m with m | m
  ·exact h3 a m
  ·exact e.free (g3 a m)
theorem News.lst {H H1:Hp}{ds:List D}{vs:List V}{a:Addr}(h:News H H1 ds vs) (e:Same H H1) (ha:H1 a=none):New H (upd H1 a (.lst vs)) (.lst ds) (.ref a):=by
 obtain⟨fp,h1,h2,h3⟩:=h
 have s:=zah ha (.lst vs)
 refine New.lst (zak.frame s.tups ds (λb m=>?_) h1) h2 h3 (e.free ha) (λm=>?_) zad
 ·obtain⟨o,ho⟩:=zak.has ds h1 b m
  rw[ho,s b o ho]
 ·obtain⟨o,ho⟩:=zak.has ds h1 a m
  rw[ha] at ho;cases ho
theorem New.news {H H':Hp}{ds:List D}{v:V}(h:New H H' (.lst ds) v):∃ a vs,v=.ref a∧H a=none∧H' a=some (.lst vs)∧News H H' ds vs:=by
 obtain⟨a,vs,fp,e1,e2,e3,e4,e5,_,e6⟩:=New.lso h
 exact⟨a,vs,e1,e2,e3,fp,e4,e5,e6⟩
end L2

namespace L2
open PySem PySem.Spec PyProof.Rows
def seqO:HO→Bool
 | .lst _=>true
 | .tup _=>true
 | .frz _ _=>true
 | _=>false
def Sq (H H':Hp):Prop:=∀ b o,H b=some o→seqO o=true→H' b=some o
theorem Same.sq {H H':Hp}(e:Same H H'):Sq H H':=λb o h _=>e b o h
theorem Sq.trans {H H1 H2:Hp}(a:Sq H H1) (b:Sq H1 H2):Sq H H2:=λc o h q=>b c o (a c o h q) q
theorem zdO {H:Hp}{p:Addr}{o u:HO}(h:H p=some u) (n:seqO u=false):Sq H (upd H p o):=λb w e q=>by
 rw[zaj (λz=>by rw[z,h] at e;cases e;rw[n] at q;cases q)];exact e
theorem Sq.lst {K:Fg}{H H':Hp}{a:Addr}{xs:List V}(e:Sq H H') (h:SqL K H a xs):SqL K H' a xs:=by
 rcases h with (h | ⟨o,h⟩) | h
 ·exact .inl (.inl (e _ _ h rfl))
 ·exact .inl (.inr ⟨o,e _ _ h rfl⟩)
 ·exact .inr h
theorem Sq.tup {K:Fg}{H H':Hp}{a:Addr}{xs:List V}(e:Sq H H') (h:SqT K H a xs):SqT K H' a xs:=by
 rcases h with (h | ⟨o,h⟩) | h
 ·exact .inl (.inl (e _ _ h rfl))
 ·exact .inl (.inr ⟨o,e _ _ h rfl⟩)
 ·exact .inr h
mutual
theorem Rep.sq {K:Fg}{H H':Hp}(e:Sq H H'):∀ (d:D) {v:V},Rep K H d v→Rep K H' d v
 | .non,_,h=>by unfold Rep at *;exact h
 | .bl _,_,h=>by unfold Rep at *;exact h
 | .int _,_,h=>by unfold Rep at *;exact h
 | .str _,_,h=>by unfold Rep at *;exact h
 | .lst ds,_,h=>by
  unfold Rep at *
  obtain⟨a,xs,h1,h2,h3⟩:=h
  exact⟨a,xs,h1,e.lst h2,Reps.sq e ds h3⟩
 | .tup ds,_,h=>by
  unfold Rep at *
  obtain⟨a,xs,h1,h2,h3⟩:=h
  exact⟨a,xs,h1,e.tup h2,Reps.sq e ds h3⟩
theorem Reps.sq {K:Fg}{H H':Hp}(e:Sq H H'):∀ (ds:List D) {vs:List V},Reps K H ds vs→Reps K H' ds vs
 | [],_,h=>by unfold Reps at *;exact h
 | d::ds,_,h=>by
  unfold Reps at *
  obtain⟨v,r,h1,h2,h3⟩:=h
  exact⟨v,r,h1,Rep.sq e d h2,Reps.sq e ds h3⟩
end
mutual
theorem RepF.sq {H H':Hp}(e:Sq H H'):∀ (d:D) {v:V}{fp:List Addr},RepF H d v fp→RepF H' d v fp
 | .non,_,_,h=>by unfold RepF at *;exact h
 | .bl _,_,_,h=>by unfold RepF at *;exact h
 | .int _,_,_,h=>by unfold RepF at *;exact h
 | .str _,_,_,h=>by unfold RepF at *;exact h
 | .lst ds,_,_,h=>by
  unfold RepF at *
  obtain⟨a,xs,r,h1,h0,h2,h3⟩:=h
  exact⟨a,xs,r,h1,h0,e _ _ h2 rfl,zak.sq e ds h3⟩
 | .tup ds,_,_,h=>by
  unfold RepF at *
  obtain⟨a,xs,h1,h2,h3⟩:=h
  exact⟨a,xs,h1,e _ _ h2 rfl,zak.sq e ds h3⟩
theorem zak.sq {H H':Hp}(e:Sq H H'):∀ (ds:List D) {vs:List V}{fp:List Addr},zak H ds vs fp→zak H' ds vs fp
 | [],_,_,h=>by unfold zak at *;exact h
 | d::ds,_,_,h=>by
  unfold zak at *
  obtain⟨v,r,f,g,h1,h0,h2,h3⟩:=h
  exact⟨v,r,f,g,h1,h0,RepF.sq e d h2,zak.sq e ds h3⟩
end
def Free (H H':Hp):Prop:=∀ a,H' a=none→H a=none
theorem Same.fr {H H':Hp}(e:Same H H'):Free H H':=λ_ h=>e.free h
theorem Free.trans {H H1 H2:Hp}(a:Free H H1) (b:Free H1 H2):Free H H2:=λc h=>a c (b c h)
theorem zcz {H:Hp}{p:Addr}{o:HO} : Free H (upd H p o):=λa h=>by
 by_cases e:a=p
 ·subst e;rw[zad] at h;cases h
 ·rw[zaj e] at h;exact h
theorem News.sq {H H1 H2:Hp}{ds:List D}{vs:List V}(e:Sq H1 H2) (h:News H H1 ds vs):News H H2 ds vs:=by
 obtain⟨fp,h1,h2,h3⟩:=h
 exact⟨fp,zak.sq e ds h1,h2,h3⟩
theorem News.snoc' {H H1 H2:Hp}{ds:List D}{vs:List V}{d:D}{v:V}(h:News H H1 ds vs) (e:Free H H1) (e2:Same H1 H2) (n:New H1 H2 d v):News H H2 (ds++[d]) (vs++[v]):=by
 obtain⟨fp,h1,h2,h3⟩:=h
 obtain⟨fq,g1,g2,g3⟩:=n
 refine⟨fp++fq,(zak.sq e2.sq ds h1).snoc g1,List.nodup_append.mpr ⟨h2,g2,λa ha b hb z=>?_⟩,λa m=>?_⟩
 ·subst z
  obtain⟨o,ho⟩:=zak.has ds h1 a ha
  have:=g3 a hb
  rw[ho] at this;cases this
 ·rcases zma.mp m with m | m
  ·exact h3 a m
  ·exact e a (g3 a m)
def Part (H:Hp) (d:D) (x:V):Prop:=(∃ i,d=.int i∧x=.int i)∨(∃ s,d=.str s∧x=.str s)∨(∃ b l,d=nums l∧x=.ref b∧H b=some (.lst (l.map V.int)))∨∃ b i j,d=.tup [.int i,.int j]∧x=.ref b∧H b=some (.tup [.int i,.int j])
def zc0 (H:Hp) (d:D) (v:V):Prop:=∃ t xs ds,d=.tup ds∧v=.ref t∧H t=some (.tup xs)∧ds.length=xs.length∧ds.length≤8∧∀ (i:Nat) dd x,ds[i]?=some dd→xs[i]?=some x→Part H dd x
theorem Part.sq {H H':Hp}(e:Sq H H') {d:D}{x:V}(h:Part H d x):Part H' d x:=by
 rcases h with h | h | ⟨b,l,h1,h2,h3⟩ | ⟨b,i,j,h1,h2,h3⟩
 ·exact .inl h
 ·exact .inr (.inl h)
 ·exact .inr (.inr (.inl ⟨b,l,h1,h2,e _ _ h3 rfl⟩))
 ·exact .inr (.inr (.inr ⟨b,i,j,h1,h2,e _ _ h3 rfl⟩))
theorem zc0.sq {H H':Hp}(e:Sq H H') {d:D}{v:V}(h:zc0 H d v):zc0 H' d v:=by
 obtain⟨t,xs,ds,h1,h2,h3,h4,h5,h6⟩:=h
 exact⟨t,xs,ds,h1,h2,e _ _ h3 rfl,h4,h5,λi dd x e1 e2=>(h6 i dd x e1 e2).sq e⟩
def zlh (d:D):Prop:=(∃ i,d=.int i)∨(∃ s,d=.str s)∨(∃ l,l.length=9∧d=nums l)∨∃ i j,d=.tup [.int i,.int j]
theorem zn6 {H:Hp}{d:D}{v:V}{fp:List Addr}(s:zlh d) (h:RepF H d v fp):Part H d v:=by
 rcases s with ⟨i,rfl⟩ | ⟨i,rfl⟩ | ⟨l,_,rfl⟩ | ⟨i,j,rfl⟩
 ·unfold RepF at h;exact .inl ⟨i,rfl,h.1⟩
 ·unfold RepF at h;exact .inr (.inl ⟨i,rfl,h.1⟩)
 ·unfold RepF at h
  obtain⟨a,xs,r,h1,_,h2,h3⟩:=h
  obtain⟨rfl,_⟩:=zak.ints_eq h3
  exact .inr (.inr (.inl ⟨a,l,rfl,h1,h2⟩))
 ·unfold RepF at h
  obtain⟨a,xs,h1,h2,h3⟩:=h
  have q:=zak.ints_eq (ns:=[i,j]) h3
  rw[q.1] at h2
  exact .inr (.inr (.inr ⟨a,i,j,rfl,h1,h2⟩))
theorem zjj {H:Hp} : ∀ {ds:List D}{xs:List V}{fp:List Addr},(∀ d∈ds,zlh d)→zak H ds xs fp→∀ (i:Nat) dd x,ds[i]?=some dd→xs[i]?=some x→Part H dd x
 | [],_,_,_,_,i,dd,x,e,_=>by simp at e
 | d::ds,_,_,s,h,i,dd,x,e1,e2=>by
  unfold zak at h
  obtain⟨v,r,f,g,rfl,_,h1,h2⟩:=h
  cases i with
  | zero=>simp at e1 e2;subst e1;subst e2;exact zn6 (s d List.mem_cons_self) h1
  | succ i=>exact zjj (λc hc=>s c (List.mem_cons_of_mem _ hc)) h2 i dd x (by simpa using e1) (by simpa using e2)
def Deed (d:D):Prop:=∃ ds,d=.tup ds∧ds.length≤8∧∀ c∈ds,zlh c
theorem zfq {H:Hp}{d:D}{v:V}{fp:List Addr}(s:Deed d) (h:RepF H d v fp):zc0 H d v:=by
 obtain⟨ds,rfl,h8,hs⟩:=s
 unfold RepF at h
 obtain⟨a,xs,h1,h2,h3⟩:=h
 exact⟨a,xs,ds,rfl,h1,h2,h3.length,h8,zjj hs h3⟩
theorem zhx {H:Hp}{d1 d2 d3 d4:D}{vs:List V}{fp:List Addr}(h:zak H [d1,d2,d3,d4] vs fp):∃ x1 x2 x3 x4 f1 f2 f3 f4,vs=[x1,x2,x3,x4]∧RepF H d1 x1 f1∧RepF H d2 x2 f2∧RepF H d3 x3 f3∧RepF H d4 x4 f4:=by
 unfold zak at h
 obtain⟨x1,_,f1,_,rfl,_,h1,h⟩:=h
 unfold zak at h
 obtain⟨x2,_,f2,_,rfl,_,h2,h⟩:=h
 unfold zak at h
 obtain⟨x3,_,f3,_,rfl,_,h3,h⟩:=h
 unfold zak at h
 obtain⟨x4,_,f4,_,rfl,_,h4,h⟩:=h
 unfold zak at h
 obtain⟨rfl,_⟩:=h
 exact⟨x1,x2,x3,x4,f1,f2,f3,f4,rfl,h1,h2,h3,h4⟩
theorem RepF.lso {H:Hp}{ds:List D}{x:V}{fp:List Addr}(h:RepF H (.lst ds) x fp):∃ b xs r,x=.ref b∧H b=some (.lst xs)∧zak H ds xs r:=by
 unfold RepF at h
 obtain⟨b,xs,r,e1,_,e3,e4⟩:=h
 exact⟨b,xs,r,e1,e3,e4⟩
theorem zak.item {H:Hp} : ∀ {ds:List D}{xs:List V}{fp:List Addr},zak H ds xs fp→∀ (i:Nat) d x,ds[i]?=some d→xs[i]?=some x→∃ f,RepF H d x f
 | [],_,_,_,i,d,x,e,_=>by simp at e
 | c::ds,_,_,h,i,d,x,e1,e2=>by
  unfold zak at h
  obtain⟨v,r,f,g,rfl,_,h1,h2⟩:=h
  cases i with
  | zero=>simp at e1 e2;subst e1;subst e2;exact⟨f,h1⟩
  | succ i=>exact zak.item h2 i d x (by simpa using e1) (by simpa using e2)
theorem zcQ {b:Bool}{X Y:Prop}(h1:b=true→X) (h2:b=false→Y):∃ c,V.bl b=.bl c∧(if c=true then X else Y):=by
 cases b with
 | true=>exact⟨true,rfl,iteT (h1 rfl)⟩
 | false=>exact⟨false,rfl,iteF (h2 rfl)⟩
theorem zeS {b:Bool}{X Y:Prop}(h1:b=true→X) (h2:b=false→Y):(if b=true then X else Y):=by
 cases b with
 | true=>exact iteT (h1 rfl)
 | false=>exact iteF (h2 rfl)
theorem zpG {K:Fg}{H:Hp}{Q:VK}{a b:Addr}{xs ys:List V}(h1:SqT K H a xs) (h2:SqT K H b ys) (nx:xs≠[]) (ny:ys≠[]) (z:xs.length+ys.length≤sizeLine) (q:∀ p,H p=none→Q (.ref p) (upd H p (.tup (xs++ys)))):zk9 K (.ref a) (.ref b) H Q:=
 .inr (.inr ⟨a,b,xs,ys,rfl,rfl,h1,h2,nx,z,λe=>absurd e ny,λ_=>q⟩)
theorem zdZ {K:Fg}{H:Hp}{ds:List D}{v:V}(h:Rep K H (.tup ds) v):∃ a xs,v=.ref a∧SqT K H a xs∧Reps K H ds xs:=by unfold Rep at h;exact h
end L2

namespace L2
open PySem PySem.Spec PyProof.Rows PySem.W
theorem zbr.has {P:Program}{w:World}{H:Hp}{h:Heap}{a:Addr}{o:HO}(x:zbr P w H h a o):∃ u,h.get? a=some u:=by
 cases o with
 | lst xs=>obtain⟨_,_,_,_,e⟩:=x;exact⟨_,e⟩
 | tup xs=>obtain⟨_,_,_,_,e,_⟩:=x;exact⟨_,e⟩
 | dK kvs=>obtain⟨_,_,_,_,o,_,_,e,_⟩:=x;exact⟨_,e⟩
 | dT kvs=>obtain⟨_,_,_,_,o,_,_,e,_⟩:=x;exact⟨_,e⟩
 | set S n=>obtain⟨o,_,_,_,e,_⟩:=x;exact⟨_,e⟩
 | ins C dx fs=>obtain⟨_,_,_,e,_⟩:=x;exact⟨_,e⟩
 | own y=>obtain⟨_,e⟩:=x;exact⟨_,e⟩
 | xd fs=>obtain⟨_,⟨_,_,_,e,_⟩,_⟩:=x;exact⟨_,e⟩
 | rng lo hi=>obtain⟨_,_,_,e⟩:=x;exact⟨_,e⟩
 | frz ob u=>obtain⟨e,_⟩:=x;exact⟨_,e⟩
 | tbl ps=>exact⟨_,show h.get? a=some _ from x⟩
 | met f y=>exact⟨_,show h.get? a=some _ from x⟩
 | ext φ=>obtain⟨_,⟨_,e⟩,_⟩:=x;exact⟨_,e⟩
def zhy (h:Heap) (e T:Addr) (cls fl:Value):Prop:=∃ oe vs oT ts,h.get? e=some oe∧oe.cls=cls∧oe.dict=none∧oe.data=.fields vs∧vs[1]?=some (.ref T)∧T≠e∧h.get? T=some oT∧oT.data=.fields ts∧ts[3]?=some fl
def zfr (fr as:List Addr) (h h':Heap):Prop:=(∀ b o,h.get? b=some o→b∉fr→b∉as→h'.get? b=some o)∧∀ b o,h.get? b=some o→b∈fr→b∉as→∃ sl,h'.get? b=some {o with slots:=sl}
theorem zfr.up {fr as:List Addr}{h h':Heap}(k:zfr fr as h h') {b:Addr}{o:Obj}(e:h.get? b=some o) (n:b∉as):∃ sl,h'.get? b=some {o with slots:=sl}:=by
 by_cases m:b∈fr
 ·exact k.2 b o e m n
 ·exact⟨o.slots,k.1 b o e m n⟩
section
variable {M : Model} {A : Around} {E : Value → Shared → Prop} {s : Shared}
theorem zhz {base:Heap}{env:Env}{outer:List Env}{L e:Addr}{oe:Obj}{vs:Array Value}{head:Value}{hadNext:Bool}{Q:Unit→Shared→Prop}(hfr:A.frames=some (env::outer)) (hl:s.heap.FunFrames base (env::outer)) (hf:env.frame=some L)
  (he:s.heap.get? e=some oe) (hd:oe.data=.fields vs) (hsz:1<vs.size) (hdi:oe.dict=none)
  (h:∀ h' T,s.heap.get? T=none→zhy h' e T oe.cls (rawInt L)→zfr (frs (env::outer)) [e] s.heap h'→Q () {s with heap:=h'}) :
  wpAny M A (do let a ←frameOf env;let pl ←entryPlaceOf L hadNext;let b ←EntryCells.newEntry head a .none (rawInt L) .none pl;setField (.ref e) 1 b) Q E s:=by
 have hene:e∉(env::outer).filterMap (·.frame):=λhm=>by
  obtain⟨_,o,ho,hnf⟩:=hl.mem hm
  rw[he] at ho;injection ho with ho;subst ho;exact hnf vs hd
 refine wpAny_bind (wpAny_frameOf_fun hfr hl hf λh₁ hs₁=>?_)
 refine wpAny_bind (wpAny_entryPlaceOf λpl hpl=>?_)
 unfold EntryCells.newEntry newFields
 refine wpAny_bind (wpAny_newObj_type ?_ (hpl.sizeOk5 _ _ _ _ _))
 have he₁:h₁.get? e=some oe:=(hs₁.2.1 e hene).trans he
 have he₂:=Heap.get?_push_of_some (h:=h₁) {cls:=.type "traceback",dict:=none,data:=.fields ([head,.ref L,.none,rawInt L,.none]++(if pl.isEmpty then List.replicate 6 Value.none else pl)).toArray} he₁
 refine wpAny_setField he₂ hd hsz (h _ h₁.objs.size (Heap.get?_none_of_le (by rw[hs₁.1];exact Nat.le_refl _)) ?_ ?_)
 ·have hTe:h₁.objs.size≠e:=Nat.ne_of_gt (Heap.lt_size he₁)
  have hd₃:=Obj.data_mapFields hd (·.setIfInBounds 1 (Value.ref h₁.objs.size))
  have he₃:=Heap.get?_update_self (Obj.mapFields (·.setIfInBounds 1 (Value.ref h₁.objs.size))) he₂ (Obj.isFreed_of_fields hd₃)
  have hT₃:=(Heap.get?_update_other (h₁.push {cls:=.type "traceback",dict:=none,data:=.fields ([head,.ref L,.none,rawInt L,.none]++(if pl.isEmpty then List.replicate 6 Value.none else pl)).toArray})
   (Obj.mapFields (·.setIfInBounds 1 (Value.ref h₁.objs.size))) (Ne.symm hTe)).trans (Heap.get?_push_size h₁ rfl)
  refine⟨_,_,_,_,he₃,Obj.cls_mapFields _ _,?_,hd₃,by simp[hsz],hTe,hT₃,rfl,by first | (simp;done) | (rcases hpl with rfl | ⟨_,_,_,_,_,_,_,rfl⟩ <;> simp)⟩
  obtain⟨c,di,dt,sl⟩:=oe
  cases hd
  exact hdi
 ·have keep:∀ b o,b≠e→h₁.get? b=some o→((h₁.push {cls:=.type "traceback",dict:=none,data:=.fields ([head,.ref L,.none,rawInt L,.none]++(if pl.isEmpty then List.replicate 6 Value.none else pl)).toArray}).update e (Obj.mapFields (·.setIfInBounds 1 (Value.ref h₁.objs.size)))).get? b=some o:=λb o hbe hb=>by
   rw[Heap.get?_update_other _ _ (Ne.symm hbe)]
   exact Heap.get?_push_of_some _ hb
  refine⟨λb o eb n1 n2=>keep b o (λz=>n2 (by simp[z])) ((hs₁.2.1 b n1).trans eb),λb o eb m n=>?_⟩
  obtain⟨sl,hsl⟩:=hs₁.2.2 b o eb
  exact⟨sl,keep b _ (λz=>n (by simp[z])) hsl⟩
theorem zgL {fr:List Addr}{e T:Addr}{cls fl:Value}{Q:Unit→Shared→Prop}(F:zhy s.heap e T cls fl) (h:∀ h',zhy h' e T cls .none→zfr fr [T] s.heap h'→Q () {s with heap:=h'}):wpAny M A (setFlight (.ref e) none) Q E s:=by
 obtain⟨oe,vs,oT,ts,he,hcls,hdi,hd,h1,hTe,hT,hdT,h3⟩:=F
 have hsz3:3<ts.size:=(Array.getElem?_eq_some_iff.mp h3).1
 have other:∀ b,b≠T→(s.heap.update T (Obj.mapFields (·.setIfInBounds 3 ((none:Option Addr).elim Value.none λf=>rawInt f)))).get? b=s.heap.get? b:=λb hb=>Heap.get?_update_other _ _ (Ne.symm hb)
 unfold setFlight
 refine wpAny_bind (wpAny_field he hd h1 ?_)
 rw[if_pos (show (Value.ref T != Value.none)=true from by simp)]
 refine wpAny_setField hT hdT hsz3 (h _ ?_ ⟨λb o e n1 n2=>(other b (λz=>n2 (by simp[z]))).trans e,λb o e m n=>⟨o.slots,(other b (λz=>n (by simp[z]))).trans e⟩⟩)
 exact⟨oe,vs,_,_,(other e (Ne.symm hTe)).trans he,hcls,hdi,hd,h1,hTe,Heap.get?_update_self _ hT (Obj.isFreed_of_fields (Obj.data_mapFields hdT _)),Obj.data_mapFields hdT _,by simp[hsz3]⟩
theorem zmt {base:Heap}{env:Env}{outer:List Env}{L e T:Addr}{cls:Value}{Q:Unit→Shared→Prop}(hfr:A.frames=some (env::outer)) (hl:s.heap.FunFrames base (env::outer)) (hf:env.frame=some L) (F:zhy s.heap e T cls .none)
  (h:∀ h' T',s.heap.get? T'=none→zhy h' e T' cls (rawInt L)→zfr (frs (env::outer)) [e,T] s.heap h'→Q () {s with heap:=h'}):wpAny M A (noteFrame (.ref e) env) Q E s:=by
 obtain⟨oe,vs,oT,ts,he,hcls,hdi,hd,h1,hTe,hT,hdT,h3⟩:=F
 subst hcls
 have hsz3:3<ts.size:=(Array.getElem?_eq_some_iff.mp h3).1
 have other:∀ b,b≠T→(s.heap.update T (Obj.mapFields (·.setIfInBounds 3 Value.none))).get? b=s.heap.get? b:=λb hb=>Heap.get?_update_other _ _ (Ne.symm hb)
 have noRecord:∀ b o,s.heap.get? b=some o→(∀ vs,o.data≠.fields vs)→b≠T:=λb o hb hnf q=>by
  rw[q,hT] at hb;injection hb with hb;subst hb;exact hnf ts hdT
 unfold noteFrame
 simp only[hf]
 refine wpAny_bind (wpAny_field he hd h1 ?_)
 rw[if_pos (show (Value.ref T != Value.none)=true from by simp)]
 refine wpAny_bind (wpAny_field hT hdT h3 ?_)
 rw[if_neg (show ¬ ((Value.none == rawInt L)=true) from by simp[rawInt])]
 refine wpAny_bind (wpAny_setField hT hdT hsz3 ?_)
 refine zhz hfr (hl.of_keeps λb o hb hnf=>⟨o,(other b (noRecord b o hb hnf)).trans hb,rfl⟩) hf ((other e (Ne.symm hTe)).trans he) hd (Array.getElem?_eq_some_iff.mp h1).1 hdi λh' T' n F' k=>?_
 have nT':s.heap.get? T'=none:=by
  by_cases z:T'=T
  ·subst z
   rw[Heap.get?_update_self _ hT (Obj.isFreed_of_fields (Obj.data_mapFields hdT _))] at n
   cases n
  ·rw[←other T' z];exact n
 refine h h' T' nT' F' ⟨λb o eb n1 n2=>k.1 b o ((other b (λz=>n2 (by simp[z]))).trans eb) n1 (λz=>n2 (by simp at z;simp[z])),λb o eb m n2=>k.2 b o ((other b (λz=>n2 (by simp[z]))).trans eb) m (λz=>n2 (by simp at z;simp[z]))⟩
end
def Fly (h0 h:Heap) (H:Hp) (e:Addr) (cls:Value):Prop:=∃ T,zhy h e T cls .none∧H e=none∧H T=none∧h0.get? e=none∧h0.get? T=none
def CX1 (P:Program) (w:World):CXT:=λouter H s E e s'=>∃ a C H',e=.ref a∧s'.os=s.os∧AllBare s'.gens∧Un (frs outer) [] H H' s.heap s'.heap∧HOk P w H' s'.heap∧Fly s.heap s'.heap H' a C∧E C none H'
section
variable {P : Program} {w : World} {K : Fg} {mg : Str → Option Value} {base : Heap} {N : List Str} {qual : Str} {scope : Scope} {f : Addr} {cd : Value} {A : Around} {outer : List Env} {s : Shared} {H : Hp} {E : XK}
theorem zne {X:Cx}{pins:List (Addr × Obj)}{σ:St}{H2:Hp}{s2:Shared}(I:Inv X pins σ H2 s2) (hex:X.ex=[]) {b:Addr}(n:s2.heap.get? b=none):X.s₀.heap.get? b=none:=by
 cases z:X.s₀.heap.get? b with
 | none=>rfl
 | some o=>
  obtain⟨u,hu⟩:=I.base.there b o z (by rw[hex];simp)
  rw[n] at hu;cases hu
theorem zpH {X:Cx}{pins:List (Addr × Obj)}{σ:St}{H2:Hp}{s2:Shared}(I:Inv X pins σ H2 s2) {b:Addr}(n:s2.heap.get? b=none):H2 b=none:=by
 cases z:H2 b with
 | none=>rfl
 | some o=>
  obtain⟨u,hu⟩:=(I.hok b o z).has
  rw[n] at hu;cases hu
theorem zn7 {pins:List (Addr × Obj)}{σ:St}{H2:Hp}{s2:Shared}{h':Heap}{as:List Addr}{a T:Addr}{C:Value}(I:Inv (cxOf (CX1 P w) P w K mg base N qual scope f cd A outer s H E) pins σ H2 s2) (hx:H2 a=none) (hx0:s.heap.get? a=none) (has:∀ b∈as,H2 b=none∧s.heap.get? b=none)
  (nT:s2.heap.get? T=none) (F:zhy h' a T C .none) (L:zfr (frs (cxOf (CX1 P w) P w K mg base N qual scope f cd A outer s H E).stack) as s2.heap h') (q:E C none H2):CX1 P w outer H s E (.ref a) {s2 with heap:=h'}:=by
 have fr:∀ b,b∈frs (cxOf (CX1 P w) P w K mg base N qual scope f cd A outer s H E).stack→b=s.heap.objs.size∨b∈frs outer:=λb hb=>by
  obtain⟨ev,he,hf⟩:=List.mem_filterMap.mp hb
  rcases List.mem_cons.mp he with z | z
  ·subst z;exact .inl (Option.some.inj hf).symm
  ·exact .inr (List.mem_filterMap.mpr ⟨ev,z,hf⟩)
 have nsz:s.heap.get? s.heap.objs.size=none:=Heap.get?_none_of_le (Nat.le_refl _)
 have hidden:∀ b,s.heap.get? b≠none→b∉as:=λb n m=>n (has b m).2
 refine⟨a,C,H2,rfl,I.os,I.bare,⟨λb o e n nf _=>?_,λb o e n nf _=>?_,λb o e n _=>I.base.free b o e n (by intro m;cases m),λb o e _=>?_,I.base.tups,I.base.frzs,I.base.tbls⟩,λb u e=>?_,⟨T,F,hx,zpH I nT,hx0,zne I rfl nT⟩,q⟩
 ·refine L.1 b o (I.base.keep b o e n nf (by intro m;cases m)) (λm=>?_) (hidden b (by rw[e];simp))
  rcases fr b m with z | z
  ·subst z;rw[nsz] at e;cases e
  ·exact nf z
 ·obtain⟨sl,e'⟩:=I.base.slot b o e n nf (by intro m;cases m)
  obtain⟨sl2,e2⟩:=L.up e' (hidden b (by rw[e];simp))
  exact⟨sl2,e2⟩
 ·obtain⟨o2,h2⟩:=I.base.there b o e (by intro m;cases m)
  obtain⟨sl,e5⟩:=L.up h2 (hidden b (by rw[e];simp))
  exact⟨_,e5⟩
 ·refine (I.hok b u e).stay (λc v hc q=>L.1 c v q (λm=>?_) (λm=>?_)) (λ_ q=>q) λ_ _ q=>q
  ·have:=I.stkFree c m
   rcases hc with z | z
   ·subst z;rw[e] at this;cases this
   ·rw[z] at this;cases this
  ·have:=(has c m).1
   rcases hc with z | z
   ·subst z;rw[e] at this;cases this
   ·rw[z] at this;cases this
theorem zli {pins:List (Addr × Obj)}{σ:St}{H2:Hp}{s2:Shared}{h3:Heap}{a:Addr}{C:Value}{args:List Value}(I:Inv (cxOf (CX1 P w) P w K mg base N qual scope f cd A outer s H E) pins σ H2 s2) (M:Heap.MadeExcOf s2.heap h3 a C args) (q:E C none H2):(cxOf (CX1 P w) P w K mg base N qual scope f cd A outer s H E).xe (.ref a) {s2 with heap:=h3}:=by
 obtain⟨t,he,htn,ht⟩:=M.there
 have I3:Inv (cxOf (CX1 P w) P w K mg base N qual scope f cd A outer s H E) pins σ H2 {s2 with heap:=h3}:=I.un (h':=h3) (t':=s2.toks) (Un.kept M.keeps) (I.hok.kept M.keeps)
 have hx:=zpH I M.new
 have hx0:s.heap.get? a=none:=zne I rfl M.new
 show wpAny _ _ (leaving _ _) _ _ _
 unfold leaving noteFrame
 show wpAny _ _ ((do let head ←field (.ref a) 1;_) >>= _) _ _ _
 refine wpAny_bind (wpAny_bind (wpAny_field he rfl (x:=.none) rfl ?_))
 rw[if_neg (by decide)]
 refine zhz (outer:=outer) I3.ok.frames I3.stack rfl he rfl (by simp) rfl λh1 T1 n1 F1 k1=>?_
 refine zgL (fr:=frs (cxOf (CX1 P w) P w K mg base N qual scope f cd A outer s H E).stack) F1 λh2 F2 k2=>?_
 have n1':h3.get? T1=none:=n1
 refine zn7 (s2:={s2 with heap:=h3}) (h':=h2) (as:=[a]) I3 hx hx0 (λb m=>by rw[zms.mp m];exact⟨hx,hx0⟩) n1' F2 ⟨λb o e m n=>k2.1 b o (k1.1 b o e m n) m (λz=>by rw[zms.mp z] at e;rw[show h3.get? T1=some o from e] at n1';cases n1'),λb o e m n=>?_⟩ q
 obtain⟨sl,e1⟩:=k1.2 b o e m n
 obtain⟨sl2,e2⟩:=k2.up e1 (λz=>by rw[zms.mp z] at e;rw[show h3.get? T1=some o from e] at n1';cases n1')
 exact⟨sl2,e2⟩
end
end L2

namespace L2
open PySem PySem.Spec PyProof.Rows PySem.W
structure Err (K:Fg) (C:Addr) (anc:List Value):Prop where
 ob:∃ nm q N bs hdct sn sub ab col dd k0 k1 k2 k3 k5,K.lookup C=some (excClassObj nm q C N bs anc hdct sn sub ab col dd k0 k1 k2 k3 k5 "ValueError.__new__")
 ex:excIn K C zba "ValueError.__new__"=true
theorem Err.obj {K:Fg}{C:Addr}{anc:List Value}{h:Heap}(X:K.In h) (e:Err K C anc):∃ nm q N bs hdct sn sub ab col dd k0 k1 k2 k3 k5 mN,h.get? C=some (excClassObj nm q C N bs anc hdct sn sub ab col dd k0 k1 k2 k3 k5 "ValueError.__new__")∧h.Ns N mN∧mN "__init__"=none∧OwnTail h zba anc:=by
 obtain⟨⟨nm,q,N,bs,hdct,sn,sub,ab,col,dd,k0,k1,k2,k3,k5,l⟩,x⟩:=e
 unfold excIn at x
 rw[l] at x
 simp only[Bool.and_eq_true,beq_iff_eq,Bool.not_eq_true'] at x
 obtain⟨⟨⟨_,ht⟩,hok⟩,hni⟩:=x
 exact⟨nm,q,N,bs,hdct,sn,sub,ab,col,dd,k0,k1,k2,k3,k5,_,X _ _ l,.of_isNs (isNs_of_in X hok),nsMap_none_of_in X hok hni,tail_of_in X ht⟩
def znf (X:Cx) (E:XK):Prop:=∀ (pins:List (Addr × Obj)) (σ:St) (H:Hp) (s:Shared) (h':Heap) (a:Addr) (C:Value) (args:List Value),Inv X pins σ H s→Heap.MadeExcOf s.heap h' a C args→E C none H→X.xe (.ref a) {s with heap:=h'}
theorem ziw {P:Program}{w:World}{K:Fg}{mg:Str→Option Value}{base:Heap}{N:List Str}{qual:Str}{scope:Scope}{f:Addr}{cd:Value}{A:Around}{outer:List Env}{s:Shared}{H:Hp}{E:XK} :
  znf (cxOf (CX1 P w) P w K mg base N qual scope f cd A outer s H E) E:=λ_ _ _ _ _ _ _ _ I M q=>zli I M q
def zng (C:Value) (E:XK) (t:TA):TS:=λ_ σ H=>t σ H λvs H1=>vs.length≤sizeLine∧E C none H1
section
variable {X : Cx} {x : Str} {np cpos pos : Pos} {e0 : Expr} {rest : List Expr} {C : Addr} {anc : List Value} {E : XK} {t : TA}
theorem zgM (c:Err X.K C anc) (hg:Gl X x) (hm:X.mg x=some (.ref C)) (hc:X.calm=true) (ht:znf X E) (ha:PA X (e0::rest) t) (he:starEach (e0::rest) X.env=(false,eval e0 X.env)::starEach rest X.env:=by rfl)
  (hpl:(backTo cpos (starEach rest X.env)).any (·.1)=false:=by rfl) (hd:(x == ("__debug__" : Str))=false:=by decide):PS X (.Raise (some (.Call (.Name x np) (e0::rest) [] cpos)) none pos) (zng (.ref C) E t):=by
 intro pins s σ H D I h
 obtain⟨nm,q,N,bs,hdct,sn,sub,ab,col,dd,k0,k1,k2,k3,k5,mN,hC,hN,hni,T⟩:=c.obj I.ok.mod.kin
 refine wpAny_Raise_call_subT (C:=C) (nm:=nm) (q:=q) (N:=N) (bs:=bs) (bm:=anc) (hdct:=hdct) (sn:=sn) (sub:=sub) (ab:=ab) (col:=col) (dd:=dd) (k0:=k0) (k1:=k1) (k2:=k2) (k3:=k3) (k5:=k5)
  PySem.F.excBase_ValueError (mN:=mN) (T.hasType PySem.F.excBase_ValueError.hasBase) (I.ok.hd hc) (by rw[he];show (false || (backTo cpos (starEach rest X.env)).any (·.1))=false;rw[hpl];rfl) hni (zdU I hg hm ⟨rfl,?_⟩ hd)
 have h2:=ha cpos pins s σ H _ I h
 rw[he] at h2 ⊢
 refine Calls.evalArgs_plain (wpAny_mono h2 (λus s2 h2=>?_) λ_ _ y=>y)
 obtain⟨vs,H1,I1,r,z,q⟩:=h2
 exact⟨rfl,by rw[←r.length];exact z,I1.bk _ _ hC,hN.keeps I1.bk,T.keeps I1.bk,λh' e M=>ht pins σ H1 s2 h' e _ _ I1 M q⟩
end
section
variable {P : Program} {w : World} {K : Fg} {mg : Str → Option Value} {base : Heap}
theorem Fun.okx {x qual:Str}{st:Stmt}{f:Addr}{fd:FuncData}{N ps:List Str}{k:Nat}{sp:Sp}(F:Fun K x qual st f fd) (S:FSc N ps (zai st)) (len:∀ vs H Q E,sp vs H Q E→vs.length=ps.length)
  (hbody:∀ (cdv:Value) (A:Around) (outer:List Env) (s:Shared) (H:Hp) (vs:List V) (Q:VK) (E:XK),Room k (A.deeper (envOfC qual (zai st) s.heap.objs.size f cdv))→sp vs H Q E→
   ∃ t,PSs (cxOf (CX1 P w) P w K mg base N qual (zai st) f cdv A outer s H E) (zb7 st) t∧t {nx:=λ_ H'=>Q .non H',rt:=Q} (start N vs) H):FnOk P w K mg base (CX1 P w) (k+1) f fd ps sp:=by
 obtain⟨oc,od,kV,doc,pm,an,cdv,ct,osl,rfl,lk,hcd⟩:=F.ex
 exact zoX lk hcd S len λA outer s H vs Q E hr hsp=>hbody cdv A outer s H vs Q E hr hsp
end
structure Mkx (P:Program) (w:World) (K:Fg) (mg:Str→Option Value) (base:Heap) (x:Str) (C:Addr) (ps:List Str) (k:Nat) (sp:Sp):Prop where
 ex:∃ f fd,Mk K C f∧FnOk P w K mg base (CX1 P w) k f fd ps sp∧zd6 K fd ps []∧mg x=some (.ref C)
structure Mth (CX:CXT) (P:Program) (w:World) (K:Fg) (mg:Str→Option Value) (base:Heap) (C:Addr) (m:Str) (ps:List Str) (k:Nat) (sp:Sp):Prop where
 ex:∃ f fd,Meth K C m f∧FnOk P w K mg base CX k f fd ps sp∧zd6 K fd ps []
section
variable {X : Cx} {CX : CXT} {k j : Nat} {C : Addr} {ps : List Str} {sp : Sp} {E : XK} {x m : Str} {p pos apos : Pos} {e o : Expr} {es : List Expr} {ta : TE} {t : TA}
theorem zpI (G:Mkx X.prog X.w X.K X.mg X.base x C ps j sp) (hr:Room k X.A) (hg:Gl X x) (hx:zda (CX1 X.prog X.w) X E) (ha:PA X (e::es) t) (hj:j+1≤k:=by decide) (hdb:(x == ("__debug__" : Str))=false:=by decide)
  (he:starEach (e::es) X.env=(false,eval e X.env)::starEach es X.env:=by rfl) (hpl:(backTo pos (starEach es X.env)).any (·.1)=false:=by rfl):PE X (.Call (.Name x p) (e::es) [] pos) (zhb C sp [] E t):=by
 obtain⟨f,fd,M,F,hb,hm⟩:=G.ex
 exact zkK M F (hr.mono hj) hg hm hb .nil hx ha hdb he hpl
theorem zbb {pl:Sem Bool}(G:Mth CX X.prog X.w X.K X.mg X.base C m ps j sp) (c:Cls X.K C) (hr:Room k X.A) (hx:zda CX X E) (he:PE X o ta) (ha:PA X (e::es) t) (hj:j≤k:=by decide)
  (hst:starEach (e::es) X.env=(false,eval e X.env)::starEach es X.env:=by rfl) (hpl:(backTo pos (starEach es X.env)).any (·.1)=false:=by rfl)
  (ht:eval (.Call (.Attribute o m apos) (e::es) [] pos) X.env=(do
   let ov ←eval o X.env
   standAt apos.atName
   let (f,first) ←holding [ov] (getMethod ov m pl)
   callWith pos f first (backTo pos (starEach (e::es) X.env)) (backToKw pos (keywordEach [] X.env))):=by rfl) :
  PE X (.Call (.Attribute o m apos) (e::es) [] pos) (zkI C m sp [] E ta t):=by
 obtain⟨f,fd,M,F,hb⟩:=G.ex
 exact znH he c M (F.mono hj) hr hb .nil hx ha hst hpl ht
theorem zby {pl:Sem Bool}(G:Mth CX X.prog X.w X.K X.mg X.base C m ps j sp) (c:Cls X.K C) (hr:Room k X.A) (hx:zda CX X E) (he:PE X o ta) (hj:j≤k:=by decide)
  (ht:eval (.Call (.Attribute o m apos) [] [] pos) X.env=(do
   let ov ←eval o X.env
   standAt apos.atName
   let (f,first) ←holding [ov] (getMethod ov m pl)
   callWith pos f first (backTo pos (starEach [] X.env)) (backToKw pos (keywordEach [] X.env))):=by rfl) :
  PE X (.Call (.Attribute o m apos) [] [] pos) (zkI C m sp [] E ta tNil):=by
 obtain⟨f,fd,M,F,hb⟩:=G.ex
 exact zl2 he c M (F.mono hj) hr hb .nil hx ht
end
end L2

namespace L2
open PySem PySem.Spec PyProof.Rows PySem.W
section
variable {M : Model} {A : Around} {E : Value → Shared → Prop} {h : Heap} {g : Array GenState} {d : Drawn} {t : Nat} {os : OsState}
variable {nm q nm' q' : Str} {C N D N' : Addr} {bs bm bs' bm' : List Value} {hdct hdct' : Bool} {sn sn' : List Str} {sub sub' : List Value} {ab ab' : Bool} {col col' : Option Bool} {dd dd' : Option Addr} {k0 k1 k2 k3 k5 l0 l1 l2 l3 l5 : Option Value} {newId newId' : String}
theorem zf0 {e:Addr}{oe:Obj}{Q:Bool→Shared→Prop}(hC:h.get? C=some (excClassObj nm q C N bs bm hdct sn sub ab col dd k0 k1 k2 k3 k5 newId)) (hD:h.get? D=some (excClassObj nm' q' D N' bs' bm' hdct' sn' sub' ab' col' dd' l0 l1 l2 l3 l5 newId'))
  (he:h.get? e=some oe) (hcls:oe.cls=.ref C) (hbase:bm'.contains (.type "BaseException")=true) (hq:Q ((Value.ref C::bm).contains (.ref D)) ⟨h,g,d,t,os⟩):wpAny M A (excMatches (.ref e) (.ref D)) Q E ⟨h,g,d,t,os⟩:=by
 have hcB:(Value.ref D::bm').contains (.type "BaseException")=true:=by rw[List.contains_cons,hbase,Bool.or_true]
 have f:=tc_notTuple
 unfold excMatches
 generalize hb:(Value.ref C::bm).contains (.ref D)=b at hq
 repeat (first | (with_reducible refine wpAny_loadPart_at he ?_;rw[hcls]) | with_reducible refine wpAny_loadPart_at hD ?_ | (with_reducible refine wpAny_isSubtype_exc hD ?_;rw[hcB]) | (with_reducible refine wpAny_isSubtype_exc hC ?_;rw[hb]) | wp_step)
 cases b <;> (wp_walk;exact hq)
end
section
variable {X : Cx} {pins : List (Addr × Obj)} {σ : St} {H : Hp} {s : Shared}
def zjY (X:Cx) (pins:List (Addr × Obj)) (H:Hp) (b:Addr):Prop:=H b=none∧X.s₀.heap.get? b=none∧b≠X.env.locals∧(∀ x c,X.env.cells.lookup x=some c→c≠b)∧(∀ p∈X.pn++pins,p.1≠b)
theorem zjk {H1:Hp}{b:Addr}(I:Inv X pins σ H1 s) (hex:X.ex=[]) (n:s.heap.get? b=none) (hH:H b=none):zjY X pins H b:=by
 refine⟨hH,?_,λz=>?_,λx c e z=>?_,λp hp z=>?_⟩
 ·cases q:X.s₀.heap.get? b with
  | none=>rfl
  | some o=>
   obtain⟨u,hu⟩:=I.base.there b o q (by rw[hex];simp)
   rw[n] at hu;cases hu
 ·subst z
  obtain⟨m,⟨o,es,ep,ho,_⟩,_⟩:=I.loc
  rw[n] at ho;cases ho
 ·subst z
  obtain⟨v,o,ho,_⟩:=I.cell x c e
  rw[n] at ho;cases ho
 ·have:=(I.pin p hp).1
  rw[z,n] at this;cases this
theorem Inv.shift {h':Heap}{as:List Addr}(I:Inv X pins σ H s) (keep:∀ b o,s.heap.get? b=some o→b∉frs X.stack→b∉as→h'.get? b=some o) (slot:∀ b o,s.heap.get? b=some o→b∈frs X.stack→b∉as→∃ sl,h'.get? b=some {o with slots:=sl})
  (has:∀ b∈as,zjY X pins H b):Inv X pins σ H {s with heap:=h'}:=by
 have up:∀ b o,s.heap.get? b=some o→b∉as→∃ sl,h'.get? b=some {o with slots:=sl}:=λb o e n=>by
  by_cases m:b∈frs X.stack
  ·exact slot b o e m n
  ·exact⟨o.slots,keep b o e m n⟩
 have neL:∀ b o,X.s₀.heap.get? b=some o→b≠X.env.locals:=λb o e=>Nat.ne_of_lt (Nat.lt_of_lt_of_le (Heap.lt_size e) I.ok.above)
 have neA:∀ b o,X.s₀.heap.get? b=some o→b∉as:=λb o e m=>by rw[(has b m).2.1] at e;cases e
 have stk:∀ b,b≠X.env.locals→b∉X.fs→b∉frs X.stack:=λb n1 n m=>(List.mem_cons.mp (I.stkSub b m)).elim n1 n
 have cellK:∀ x c,X.env.cells.lookup x=some c→∀ v,s.heap.IsCell c v→h'.IsCell c v:=λx c e v ⟨o,ho,hd⟩=>by
  obtain⟨sl,q⟩:=up c o ho (λz=>(has c z).2.2.2.1 x c e rfl)
  exact⟨_,q,hd⟩
 refine⟨I.ok,I.os,I.bare,⟨λb o e n hb hx=>?_,λb o e n hb hx=>?_,I.base.free,λb o e hx=>?_,I.base.tups,I.base.frzs,I.base.tbls⟩,?_,λx c e=>?_,I.free,I.freeC,λp hp=>?_,λb u e=>?_,I.len⟩
 ·exact keep b o (I.base.keep b o e n hb hx) (stk b (neL b o e) hb) (neA b o e)
 ·obtain⟨sl,e1⟩:=I.base.slot b o e n hb hx
  obtain⟨sl',e2⟩:=up b _ e1 (neA b o e)
  exact⟨sl',e2⟩
 ·obtain⟨o',e1⟩:=I.base.there b o e hx
  obtain⟨sl,e2⟩:=up b o' e1 (neA b o e)
  exact⟨_,e2⟩
 ·obtain⟨m,⟨o,es,ep,ho,r⟩,hl⟩:=I.loc
  obtain⟨sl,hL⟩:=up _ o ho (λz=>(has _ z).2.2.1 rfl)
  refine⟨m,⟨_,es,ep,hL,r⟩,λi x v e1 e2 e3=>?_⟩
  obtain⟨u,r,l⟩:=hl i x v e1 e2 e3
  refine⟨u,r,?_⟩
  rcases l with l | ⟨l,c,e,z⟩
  ·exact .inl l
  ·exact .inr ⟨l,c,e,cellK x c e _ z⟩
 ·obtain⟨v,z⟩:=I.cell x c e
  exact⟨v,cellK x c e v z⟩
 ·obtain⟨e,n,ne,nf,d⟩:=I.pin p hp
  exact⟨keep _ _ e (stk _ ne nf) (λm=>(has _ m).2.2.2.2 p hp rfl),n,ne,nf,d⟩
 ·refine (I.hok b u e).stay (λc v hc q=>keep c v q (λm=>?_) (λm=>?_)) (λ_ q=>q) λ_ _ q=>q
  ·have:=I.stkFree c m
   rcases hc with z | z
   ·subst z;rw[e] at this;cases this
   ·rw[z] at this;cases this
  ·have:=(has c m).1
   rcases hc with z | z
   ·subst z;rw[e] at this;cases this
   ·rw[z] at this;cases this
end
def XP (X:Cx) (pins:List (Addr × Obj)) (σ:St) (E:XK) (e:Value) (s':Shared):Prop:=∃ a C H' s1 H1,e=.ref a∧Inv X pins σ H1 s1∧Inv X pins σ H' s'∧Fly s1.heap s'.heap H' a C∧E C none H'
def PEx (X:Cx) (e:Expr) (t:XK→TE):Prop:=
 ∀ (pins:List (Addr × Obj)) (s:Shared) (σ:St) (H:Hp) (Q:VK) (E:XK),Inv X pins σ H s→t E σ H Q→wpAny (model X.prog X.w) X.A (eval e X.env) (EP X pins σ Q) (XP X pins σ E) s
def PSx (X:Cx) (st:Stmt) (t:XK→TS):Prop:=
 ∀ (pins:List (Addr × Obj)) (s:Shared) (σ:St) (H:Hp) (D:Ends) (E:XK),Inv X pins σ H s→t E D σ H→wpAny (model X.prog X.w) X.A (exec st X.env) (SP X pins D) (XP X pins σ E) s
def PSxs (X:Cx) (st:List Stmt) (t:XK→TS):Prop:=
 ∀ (pins:List (Addr × Obj)) (s:Shared) (σ:St) (H:Hp) (D:Ends) (E:XK),Inv X pins σ H s→t E D σ H→wpAny (model X.prog X.w) X.A (execs st X.env) (SP X pins D) (XP X pins σ E) s
theorem nxm {α:Type}{t:Sem α}{Q Q':α→Shared→Prop}{M:Model}{A:Around}{E:Value→Shared→Prop}{s:Shared}(h:wpAny M A t Q (λ_ _=>False) s) (hQ:∀ a s,Q a s→Q' a s):wpAny M A t Q' E s:=wpAny_mono h hQ λ_ _ x=>x.elim
section
variable {X : Cx} {k j : Nat} {f C : Addr} {fd : FuncData} {ps : List Str} {sp : Sp} {x m : Str} {p pos apos : Pos} {e o : Expr} {es : List Expr} {ta : TE} {t : TA} {E : XK} {pins : List (Addr × Obj)} {σ : St} {H : Hp} {s : Shared} {Q : VK} {us : List Value} {vs : List V}
theorem zpJ (G:Mkx X.prog X.w X.K X.mg X.base x C ps j sp) (hr:Room k X.A) (hg:Gl X x) (ha:PA X.nox (e::es) t) (hj:j+1≤k:=by decide) (hdb:(x == ("__debug__" : Str))=false:=by decide)
  (he:starEach (e::es) X.env=(false,eval e X.env)::starEach es X.env:=by rfl) (hpl:(backTo pos (starEach es X.env)).any (·.1)=false:=by rfl):PEx X (.Call (.Name x p) (e::es) [] pos) (λE=>zhb C sp [] E t):=by
 obtain⟨f,fd,M,F,hb,hm⟩:=G.ex
 intro pins s σ H Q E I h
 refine wpAny_Call_Name_kw (zdU I hg hm ?_ hdb)
 refine PySem.W.callWith_K (h₀:=X.base) I.ok.mod.kin M.kp (nxm (ha pos pins s σ H _ (I.wish _) h) λus s1 ⟨vs,H1,I1',r,h⟩=>⟨I1'.unwish.kIn,?_⟩) he hpl
 have I1:=I1'.unwish
 have hq:=h (s1.heap.objs.size+1) s1.heap.objs.size (I1.hok.fresh (Nat.le_succ _)) (I1.hok.fresh (Nat.le_refl _)) (Nat.ne_of_lt (Nat.lt_succ_self _))
 rw[List.append_nil] at hq
 have I2:=Inv.made (C:=C) I1
 have r2:Vals (V.ref (s1.heap.objs.size+1)::vs) (Value.ref (s1.heap.objs.size+1)::us):=.cons rfl r
 have hl:(Value.ref (s1.heap.objs.size+1)::us++[]).length=ps.length:=by
  have e:=r2.length
  rw[F.len _ _ _ _ hq] at e
  rw[List.append_nil]
  exact e.symm
 refine wpAny_call (zi6 (f:=f) I1.kIn M.makes M.init (beq_iff_eq.mp M.fn) (codeAny_mono (F.run _ X.stack _ _ ⟨Value.ref (s1.heap.objs.size+1)::us,[]⟩ (Value.ref (s1.heap.objs.size+1)::us) _ _ E ((hr.mono hj).make C us [])
  (I2.env0.make C us []) (by have:=hb _ (Value.ref (s1.heap.objs.size+1)::us) I2.kIn hl;rwa [List.append_nil] at this) r2 hq) λr s' hq'=>?_))
 cases r with
 | error e=>
  obtain⟨a,C',H3,rfl,os,bare,un,hok,F,q⟩:=hq'
  exact⟨a,C',H3,_,_,rfl,I2,I2.call' os un hok bare (λb z=>absurd z (by simp)),F,q⟩
 | ok fl=>
  cases fl with
  | ret u=>
   obtain⟨v,H',I3,rv,ev,q3⟩:=I2.after hq'
   subst ev
   exact⟨rv,⟨V.ref (s1.heap.objs.size+1),H',I3,rfl,q3⟩⟩
  | next=>exact False.elim hq'
  | brk=>exact False.elim hq'
  | cont=>exact False.elim hq'
variable {te : XK → TE} {st : Stmt} {tt uu : XK → TS}
theorem zmu (he:PEx X e te) (hs:swapsWith e none pos.line X.env=pure false:=by rfl):PSx X (.Expr e pos) (λE=>znu (te E)):=by
 intro pins s σ H D E I h
 exact wpAny_Expr_any (thn (he pins s σ H _ E I h) λv s1 ⟨x,H1,I1,r1,q1⟩=>⟨σ,H1,I1,q1⟩) I.quiet hs
theorem zmv (h1:PSx X st tt):PSxs X [st] tt:=by
 intro pins s σ H D E I h
 refine wpAny_execs_cons (thn (h1 pins s σ H D E I h) λf s1 q=>?_)
 cases f with
 | next=>exact wpAny_execs_nil q
 | ret v=>exact q
 | brk=>exact q
 | cont=>exact q
end
end L2

namespace L2
open PySem PySem.Spec PyProof.Rows PySem.W
section
variable {X : Cx} {pins : List (Addr × Obj)} {σ : St} {H : Hp} {a : Addr} {C : Value} {s : Shared}
structure Ready (X:Cx) (pins:List (Addr × Obj)) (σ:St) (H:Hp) (a:Addr) (C:Value) (s:Shared):Prop where
 ex:∃ (s':Shared) (T T':Addr),Inv X pins σ H s'∧zjY X pins H a∧zjY X pins H T∧s'.heap.get? T'=none∧(∃ h',s={s' with heap:=h'})∧zhy s.heap a T' C .none∧zfr (frs X.stack) [a,T] s'.heap s.heap
theorem Ready.inv (R:Ready X pins σ H a C s):Inv X pins σ H s:=by
 obtain⟨s',T,T',I,ha,hT,_,⟨h',rfl⟩,F,U⟩:=R.ex
 refine I.shift (as:=[a,T]) U.1 U.2 (λb m=>?_)
 rcases List.mem_cons.mp m with z | z
 ·subst z;exact ha
 ·rw[zms.mp z];exact hT
theorem Ready.apart (R:Ready X pins σ H a C s):zjY X pins H a:=by
 obtain⟨s',T,T',I,ha,hT,_,⟨h',rfl⟩,F,U⟩:=R.ex
 exact ha
theorem Ready.obj (R:Ready X pins σ H a C s):∃ oe vs,s.heap.get? a=some oe∧(oe.cls=C∧oe.dict=none)∧oe.data=.fields vs:=by
 obtain⟨s',T,T',I,ha,hT,_,_,F,U⟩:=R.ex
 obtain⟨oe,vs,oT,ts,h1,h2,h3,h4,_⟩:=F
 exact⟨oe,vs,h1,⟨h2,h3⟩,h4⟩
theorem Ready.again {M:Model}{A:Around}{E:Value→Shared→Prop}{Q:Unit→Shared→Prop}(R:Ready X pins σ H a C s) (k:∀ s2,Ready X pins σ H a C s2→Q () s2):wpAny M A (setFlight (.ref a) none) Q E s:=by
 obtain⟨s',T,T',I,ha,hT,n,⟨h',rfl⟩,F,U⟩:=R.ex
 refine zgL (fr:=frs X.stack) F λh2 F2 U2=>k _ ⟨s',T,T',I,ha,hT,n,⟨h2,rfl⟩,F2,⟨λb o e m1 m2=>U2.1 b o (U.1 b o e m1 m2) m1 (λz=>by rw[zms.mp z,n] at e;cases e),λb o e m1 m2=>?_⟩⟩
 obtain⟨sl,e1⟩:=U.2 b o e m1 m2
 obtain⟨sl2,e2⟩:=U2.up e1 (λz=>by rw[zms.mp z,n] at e;cases e)
 exact⟨sl2,e2⟩
theorem zix {E:XK}{E':Value→Shared→Prop}{e:Value}{Q:Shared→Prop}(hex:X.ex=[]) (hst:X.stack=X.env::X.outer) (hf:X.env.frame=some X.env.locals) (h:XP X pins σ E e s)
  (k:∀ a C H' s3,e=.ref a→Ready X pins σ H' a C s3→E C none H'→Q s3) :
  wpAny (model X.prog X.w) X.A (noteFrame e X.env) (λ_ s2=>wpAny (model X.prog X.w) X.A (setFlight e none) (λ_ s3=>Q s3) E' s2) E' s:=by
 obtain⟨a,C,H',s1,H1,rfl,I1,I',⟨T,F,hx,hT,hx0,hT0⟩,q⟩:=h
 have hfr:X.A.frames=some (X.env::X.outer):=by rw[←hst];exact I'.ok.frames
 refine zmt (outer:=X.outer) (base:=X.base) hfr (by rw[←hst];exact I'.stack) hf F λh1 T1 n1 F1 U1=>?_
 rw[←hst] at U1
 refine zgL (fr:=frs X.stack) F1 λh2 F2 U2=>k a C H' _ rfl ⟨s,T,T1,I',zjk I1 hex hx0 hx,zjk I1 hex hT0 hT,n1,⟨h2,rfl⟩,F2,⟨λb o e m1 m2=>U2.1 b o (U1.1 b o e m1 m2) m1 (λz=>by rw[zms.mp z,n1] at e;cases e),λb o e m1 m2=>?_⟩⟩ q
 obtain⟨sl,e1⟩:=U1.2 b o e m1 m2
 obtain⟨sl2,e2⟩:=U2.up e1 (λz=>by rw[zms.mp z,n1] at e;cases e)
 exact⟨sl2,e2⟩
def XH (X:Cx) (a:Addr) (o:Obj):Cx:={X with A:=X.A.mark (some (.ref a)),calm:=false,pn:=(a,o)::X.pn,xe:=λ_ _=>False}
theorem Inv.held {o:Obj}(I:Inv X pins σ H s) (ho:s.heap.get? a=some o) (ap:zjY X pins H a) (nc:∀ v,o.data≠.cell v):Inv (XH X a o) pins σ H s:=by
 have ok:=I.ok
 refine⟨⟨ok.mod,ok.kind,ok.glob,ok.blt,ok.above,ok.inj,ok.has,ok.cab,(λz=>absurd z Bool.false_ne_true),ok.frames,ok.stk,ok.exf,ok.bs,ok.bsz,ok.noex,ok.exfs,ok.funs,ok.frf⟩,I.os,I.bare,I.base,I.loc,I.cell,I.free,I.freeC,λp hp=>?_,I.hok,I.len⟩
 have hp':p∈(a,o)::(X.pn++pins):=hp
 rcases List.mem_cons.mp hp' with z | z
 ·subst z
  refine⟨ho,ap.1,ap.2.2.1,λm=>?_,nc⟩
  obtain⟨_,o2,h2,_⟩:=ok.funs.mem m
  have:=ap.2.1
  rw[h2] at this;cases this
 ·exact I.pin p z
theorem Inv.unheld {o:Obj}(ok:X.Ok) (I:Inv (XH X a o) pins σ H s):Inv X pins σ H s:=
 ⟨ok,I.os,I.bare,I.base,I.loc,I.cell,I.free,I.freeC,λp hp=>I.pin p (List.mem_cons_of_mem _ hp),I.hok,I.len⟩
end
def PH (X:Cx) (hs:List ExceptHandler) (t:Value→Addr→TS):Prop:=
 ∀ (pins:List (Addr × Obj)) (s:Shared) (σ:St) (H:Hp) (D:Ends) (a:Addr) (C:Value),Ready X pins σ H a C s→t C a D σ H→wpAny (model X.prog X.w) X.A (handleBy (.ref a) X.env hs) (SP X pins D) X.xe s
def tHand (K:Fg) (D:Addr) (th tr:Value→Addr→TS):Value→Addr→TS:=λC a E σ H=>∃ Cc anc,C=.ref Cc∧Err K Cc anc∧if (Value.ref Cc::anc).contains (.ref D)=true then th C a E σ H else tr C a E σ H
def tAs (i:Nat) (t:Value→Addr→TS):Value→Addr→TS:=λC a D σ H=>t C a {nx:=λσ' H'=>D.nx (σ'.set i none) H',rt:=D.rt,bk:=λσ' H'=>D.bk (σ'.set i none) H',ct:=λσ' H'=>D.ct (σ'.set i none) H'} (σ.set i (some (.ref a))) H
section
variable {X : Cx} {x : Str} {np pos : Pos} {b0 : Stmt} {suite : List Stmt} {rest : List ExceptHandler} {D : Addr} {anc : List Value} {tb tr : Value → Addr → TS}
theorem zpK:PH X [] (λ_ _=>zoN):=λ_ _ _ _ _ _ _ _ h=>h.elim
theorem zed {M:Model}{A:Around}{E:Value→Shared→Prop}{pins:List (Addr × Obj)}{σ:St}{H:Hp}{s:Shared}{i:Nat}{n:Str}{pos:Pos}{Q:Unit→Shared→Prop}(I:Inv X pins σ H s) (hN:X.N.Nodup) (hi:X.N[i]?=some n) (hl:X.env.scope.names.lookup n=some .local)
  (k:∀ s',Inv X pins (σ.set i none) H s'→Q () s'):wpAny M A (do bindName X.env n .none;unbindBehindTheSuite X.env n pos) Q E s:=by
 refine wpAny_bind (wpAny_bindName (ze2 I hN hi (.inl hl) (v:=.non) (u:=.none) rfl (λs1 I1=>?_) (.inr hl)))
 have hiσ:i<σ.length:=by rw[I.len];exact (zge.mp hi).1
 obtain⟨m,hn,hv⟩:=id I1.loc
 obtain⟨u,_,lk⟩:=hv i n .non hi (by rw[List.getElem?_set_self hiσ]) (.inl hl)
 have hv':m n=some u:=by
  rcases lk with ⟨_,z⟩ | ⟨z,_⟩
  ·exact z
  ·have hl':X.env.kindOf n=some .local:=hl
   rw[hl'] at z
   rcases z with z | z <;> cases z
 unfold unbindBehindTheSuite
 refine wpAny_onRaise (wpAny_unbindName_local hl hn hv' (by rw[I.ok.kind];rfl) λh' u' hn' hs=>k _ ?_)
 obtain⟨oL,_,_,hoL,_⟩:=id hn
 have neL:∀ b o,X.s₀.heap.get? b=some o→b≠X.env.locals:=λb o e=>Nat.ne_of_lt (Nat.lt_of_lt_of_le (Heap.lt_size e) I.ok.above)
 refine⟨I.ok,I1.os,I1.bare,⟨λb o e n hb hx=>?_,λb o e n hb hx=>?_,I1.base.free,λb o e hx=>?_,I1.base.tups,I1.base.frzs,I1.base.tbls⟩,⟨_,hn',λj y v' e1 e2 e3=>?_⟩,λy c e=>?_,I1.free,I1.freeC,λp hp=>?_,λb ob e=>?_,by rw[List.length_set];exact I.len⟩
 ·exact (hs.2 b (neL b o e)).trans (I1.base.keep b o e n hb hx)
 ·obtain⟨sl,e1⟩:=I1.base.slot b o e n hb hx
  exact⟨sl,(hs.2 b (neL b o e)).trans e1⟩
 ·obtain⟨o',e1⟩:=I1.base.there b o e hx
  exact⟨o',(hs.2 b (neL b o e)).trans e1⟩
 ·by_cases hj:j=i
  ·subst hj
   rw[List.getElem?_set_self hiσ] at e2
   cases e2
  ·rw[List.getElem?_set_ne (Ne.symm hj)] at e2
   obtain⟨u2,r,q⟩:=hv j y v' e1 (by rw[List.getElem?_set_ne (Ne.symm hj)];exact e2) e3
   refine⟨u2,r,?_⟩
   rcases q with ⟨k,e⟩ | ⟨k,c,e,z⟩
   ·refine .inl ⟨k,?_⟩
    have:y≠n:=λe=>hj (zgy hN e1 (e ▸ hi))
    simp[this,e]
   ·exact .inr ⟨k,c,e,z.sameBut hs (I1.cne y c e)⟩
 ·obtain⟨w',z⟩:=I1.cell y c e
  exact⟨w',z.sameBut hs (I1.cne y c e)⟩
 ·obtain⟨e,n,ne,nf,d⟩:=I1.pin p hp
  exact⟨(hs.2 p.1 ne).trans e,n,ne,nf,d⟩
 ·refine (I1.hok b ob e).stay (λc w' hc q=>(hs.2 c ?_).trans q) (λ_ q=>q) λ_ _ q=>q
  rintro rfl
  rcases hc with rfl | hc
  ·rw[I1.free] at e;cases e
  ·rw[I1.free] at hc;cases hc
theorem zpL {i:Nat}{n:Str}(eD:Err X.K D anc) (hg:Gl X x) (hm:X.mg x=some (.ref D)) (hN:X.N.Nodup) (hi:X.N[i]?=some n) (hl:X.env.scope.names.lookup n=some .local) (hb:∀ a o,o.dict=none→(∀ v,o.data≠.cls v)→PSs (XH X a o) (b0::suite) (tb o.cls a)) (hr:PH X rest tr) (hd:(x == ("__debug__" : Str))=false:=by decide) :
  PH X (.ExceptHandler (some (.Name x np)) (some n) (b0::suite) pos::rest) (tHand X.K D (tAs i tb) tr):=by
 intro pins s σ H E a C R h
 obtain⟨Cc,ancC,rfl,eC,h⟩:=h
 have I:=R.inv
 obtain⟨oe,vs,ho,⟨hc,_⟩,hdt⟩:=R.obj
 obtain⟨nm,q,N,bs,hdct,sn,sub,ab,col,dd,k0,k1,k2,k3,k5,mN,hC,_,_,TC⟩:=eC.obj I.kIn
 obtain⟨nm',q',N',bs',hdct',sn',sub',ab',col',dd',l0,l1,l2,l3,l5,mN',hD,_,_,TD⟩:=eD.obj I.kIn
 refine wpAny_handleBy_cons (codeAny_handlers_test (zdU (X:=XH X a oe) (I.held ho R.apart (λv z=>by rw[hdt] at z;cases z)) hg hm ?_ hd)) (by intro q;cases q)
 obtain⟨hp,g,d,tk,os⟩:=s
 refine zf0 hC hD ho hc (TD.hasType PySem.F.excBase_ValueError.hasBase) ?_
 by_cases b:(Value.ref Cc::ancC).contains (.ref D)=true
 ·rw[if_pos b] at h
  rw[b]
  show codeAny _ _ _ _ _
  refine codeAny_handlers_suite_as (R.again λs2 R2=>?_)
  obtain⟨o2,vs2,ho2,⟨hc2,hi2⟩,hd2⟩:=R2.obj
  rw[←hc2] at h
  have IH:=R2.inv.held ho2 R2.apart (λv z=>by rw[hd2] at z;cases z)
  refine ze2 (X:=XH X a o2) IH hN hi (.inl hl) (v:=.ref a) (u:=.ref a) rfl (λs3 I3=>?_) (.inr hl)
  refine nxm (hb a o2 hi2 (λv z=>by rw[hd2] at z;cases z) pins s3 _ H _ I3 h) λf s4 q=>?_
  show wpAny _ _ _ _ _ _
  cases f with
  | next=>
   obtain⟨σ',H',I4,q⟩:=q
   exact zed (I4.unheld I.ok) hN hi hl λs5 I5=>⟨_,H',I5,q⟩
  | brk=>
   obtain⟨σ',H',I4,q⟩:=q
   exact zed (I4.unheld I.ok) hN hi hl λs5 I5=>⟨_,H',I5,q⟩
  | cont=>
   obtain⟨σ',H',I4,q⟩:=q
   exact zed (I4.unheld I.ok) hN hi hl λs5 I5=>⟨_,H',I5,q⟩
  | ret u=>
   obtain⟨v,σ',H',I4,r,q⟩:=q
   exact zed (I4.unheld I.ok) hN hi hl λs5 I5=>⟨v,_,H',I5,r,q⟩
 ·rw[if_neg b] at h
  rw[Bool.not_eq_true] at b
  rw[b]
  exact hr pins _ σ H E a _ R h
def tTry (tb:XK→TS) (th:Value→Addr→TS):TS:=λD σ H=>tb (λC _ H'=>∀ a,th C a D σ H') D σ H
theorem zpM {body:List Stmt}{h0:ExceptHandler}{hs:List ExceptHandler}{tx:XK→TS}{th:Value→Addr→TS}(hex:X.ex=[]) (hst:X.stack=X.env::X.outer) (hf:X.env.frame=some X.env.locals) (hb:PSxs X body tx) (hh:PH X (h0::hs) th):PS X (.Try body (h0::hs) [] [] pos) (tTry tx th):=by
 intro pins s σ H D I h
 refine wpAny_Try_except (wpAny_mono (hb pins s σ H D _ I h) (λf s1 q=>?_) λe s1 q=>?_)
 ·cases f with
  | next=>exact wpAny_execs_nil q
  | ret v=>exact q
  | brk=>exact q
  | cont=>exact q
 ·exact zix hex hst hf q λa C H' s3 ee R q2=>by
   subst ee
   exact hh pins s3 σ H' D a C R (q2 a)
end
theorem Err.cls {K:Fg}{C:Addr}{anc:List Value}(e:Err K C anc):∃ cd,clsIn K C=some cd∧cd.mro=.ref C::anc∧typeIn K (.ref C)=some (.type "type"):=by
 obtain⟨⟨nm,q,N,bs,hdct,sn,sub,ab,col,dd,k0,k1,k2,k3,k5,l⟩,x⟩:=e
 refine⟨_,by unfold clsIn;rw[l],rfl,?_⟩
 show (K.lookup C).map (·.cls)=_
 rw[l];rfl
theorem zn8 {K:Fg}{C D:Addr}{anc ancD:List Value}(e:Err K C anc) (d:Err K D ancD):kitOne K (.ref C) (.ref D)=some ((Value.ref C::anc).contains (.ref D)):=by
 obtain⟨cC,c1,c2,c3⟩:=e.cls
 obtain⟨cD,d1,d2,d3⟩:=d.cls
 unfold kitOne
 by_cases z:(Value.ref C == Value.ref D)=true
 ·rw[if_pos z]
  have:Value.ref C=Value.ref D:=eq_of_beq z
  rw[←this]
  simp
 ·rw[if_neg z]
  unfold kitCls
  simp only[d1,d3]
  unfold subIn mroIn
  simp only[c1,c2]
  simp
  rw[c2]
  simp
end L2

namespace L2
open PySem PySem.Spec PyProof.Rows PySem.W
def zb9:Nat:=10 ^ 30
theorem zhA {i:Int}(h:i.natAbs<zb9):i.natAbs.log2<1920:=by
 by_cases z:i.natAbs=0
 ·rw[z];decide
 ·refine (Nat.log2_lt z).mpr (Nat.lt_of_lt_of_le h ?_)
  unfold zb9
  exact Nat.le_trans (by decide:10 ^ 30≤2 ^ 100) (Nat.pow_le_pow_right (n:=2) (by decide) (by decide:100≤1920))
section
variable {X : Cx} {pins : List (Addr × Obj)} {σ : St} {H : Hp} {s : Shared}
end
theorem zfs {i:Int}(h:i.natAbs<zb9):(Str.ofString (toString i)).length≤32:=by
 have e:=int_text_length_le10 (k:=30) (by decide) h
 rw[PySem.ofString_length];omega
end L2

namespace L2
open PySem PySem.Spec PyProof.Rows PySem.W
section
variable {prog : Program} {w : World} {A : Around} {E : Value → Shared → Prop}
theorem zhB {it t:Addr}{items:Array Value}(hne:t≠it):∀ (n i:Nat) (s:Shared) (Q:List Value→Shared→Prop),s.heap.IsListIter it t i→s.heap.IsList t items→i+n≤items.size→
  (∀ h',h'.IsListIter it t (i+n)→Heap.SameBut it s.heap h'→Q ((items.toList.drop i).take n) {s with heap:=h'})→wpAny (model prog w) A (draw (.ref it) n) Q E s
 | 0,i,s,Q,hit,_,_,hQ=>by
  show wpAny _ _ (pure []) Q E s
  exact wpAny_pure (by simpa using hQ s.heap hit (Heap.SameBut.refl ..))
 | n+1,i,s,Q,hit,ht,hle,hQ=>by
  have hlt:i<items.size:=by omega
  show wpAny _ _ (pyNext (.ref it) >>= _) Q E s
  refine wpAny_bind (wpAny_pyNext_list_item hit ht (x:=items[i]) (by simp[hlt]) λh₁ hit₁ hs₁=>?_)
  have ht₁:h₁.IsList t items:=by obtain⟨o,ho,r⟩:=ht;exact⟨o,(hs₁.2 t hne).trans ho,r⟩
  refine wpAny_bind (wpAny_holding (zhB hne n (i+1) _ _ hit₁ ht₁ (by omega) λh₂ hit₂ hs₂=>wpAny_pure ?_))
  have hd:items.toList.drop i=items[i]::items.toList.drop (i+1):=by simp[List.drop_eq_getElem_cons,hlt]
  have:=hQ h₂ (by rw[show i+(n+1)=i+1+n by omega];exact hit₂) (hs₁.trans hs₂)
  rw[hd,List.take_succ_cons] at this
  exact this
theorem zeT {s:Shared}{t:Addr}{items:Array Value}{Q:List Value→Shared→Prop}(hh:A.handled=none) (ht:s.heap.IsList t items)
  (hQ:∀ h',Heap.ExtBut s.heap.objs.size s.heap h'→Q items.toList {s with heap:=h'}):wpAny (model prog w) A (unpackItems (.ref t) items.size none) Q E s:=by
 have hlt:t≠s.heap.objs.size:=by obtain⟨o,ho,_⟩:=ht;exact Nat.ne_of_lt (Heap.lt_size ho)
 have htp:(s.heap.push {cls:=.type "list_iterator",data:=.fields #[.ref t,.int 0 0]}).IsList t items:=by obtain⟨o,ho,r⟩:=ht;exact⟨o,Heap.get?_push_of_some _ ho,r⟩
 unfold unpackItems
 refine wpAny_bind ?_
 unfold notIterableAtAll
 refine wpAny_bind (wpAny_specialOf ht.typeIs slot_list_iter.lookup ?_)
 refine wpAny_pure ?_
 simp only[Bool.false_eq_true,if_false]
 refine wpAny_bind (wpAny_holding (wpAny_pyIter_list ht ?_))
 refine wpAny_bind (wpAny_holding (zhB hlt items.size 0 _ _ ⟨_,Heap.get?_push_size _ rfl,rfl,rfl⟩ htp (by omega) λh₁ hit₁ hs₁=>?_))
 have hall:List.take items.size (List.drop 0 items.toList)=items.toList:=by
  rw[List.drop_zero];exact List.take_of_length_le (by simp)
 rw[hall]
 rw[if_neg (by simp)]
 have ht₁:h₁.IsList t items:=by obtain⟨o,ho,r⟩:=htp;exact⟨o,(hs₁.2 t hlt).trans ho,r⟩
 refine wpAny_bind (wpAny_holding (wpAny_pyNext_list_end hh hit₁ ht₁ (by simp) λh₂ he₂=>?_))
 simp only[Option.isSome_none,Bool.false_eq_true,if_false]
 refine wpAny_pure (hQ h₂ λb o hb e=>he₂ b o hb ((hs₁.2 b hb).trans (Heap.get?_push_of_some _ e)))
end
def zpN (K:Fg) (n:Nat) (t:TGs):TG:=λv σ H Q=>∃ a xs,v=.ref a∧SqL K H a xs∧xs.length=n∧t xs σ H Q
section
variable {X : Cx} {pos : Pos}
theorem zn9 {es:List Expr}{k:Nat}{t:TGs}{n:Nat}(hc:X.calm=true) (h:PGs X es t)
  (hn:(assignEach es X.env).length=n:=by rfl) (hst:(assignEach es X.env).findIdx? (·.1)=none:=by rfl):PG X (.Tuple es k pos) (zpN X.K n t):=by
 intro pins s σ H v u Q I r hw
 obtain⟨a,xs,e1,hq,hl,hw⟩:=hw
 subst e1
 cases r
 obtain⟨its,rv,ht,hz⟩:=I.list hq
 rw[assign_Tuple]
 refine wpAny_bind (wpAny_standAt ?_)
 unfold unpack
 rw[hst,show (assignEach es X.env).length=its.toArray.size by rw[hn,←hl,rv.length,zst]]
 refine wpAny_bind (wpAny_holding (zeT (I.ok.hd hc) ht.isList λh' hx=>?_))
 have I1:Inv X pins σ H {s with heap:=h'}:=I.kept (t':=s.toks) λb o e=>hx b o (Nat.ne_of_lt (Heap.lt_size e)) e
 exact h pins _ σ H xs _ Q I1 (by simpa using rv) hw
theorem zoa (K:Fg) {es:List Expr}{kk:Nat}{t:TGs}{n:Nat}(hc:X.calm=true) (h:PGs X es t) (hK:X.K=K:=by rfl) (hn:(assignEach es X.env).length=n:=by rfl) (hst:(assignEach es X.env).findIdx? (·.1)=none:=by rfl) :
  PG X (.Tuple es kk pos) (zpN K n t):=by subst hK;exact zn9 hc h hn hst
end
end L2

namespace L2
open PySem PySem.Spec PyProof.Rows PySem.W
end L2

namespace L2
open PySem PySem.Spec PyProof.Rows PySem.W
section
variable {X : Cx} {es : List Expr} {pos : Pos} {te : TE} {t : TA}
theorem zac {x:Str}(h:PE X (.Name x pos) te) (r:PA X es t):PA X (.Name x pos::es) (zdf te t):=zbN h r rfl
theorem zaf {c:Const}{k:Nat}(h:PE X (.Constant c k pos) te) (r:PA X es t):PA X (.Constant c k pos::es) (zdf te t):=zbN h r rfl
theorem zmw {o:UnaryOp}{a:Expr}(h:PE X (.UnaryOp o a pos) te) (r:PA X es t):PA X (.UnaryOp o a pos::es) (zdf te t):=zbN h r rfl
theorem zpO {a b c:Expr}(h:PE X (.IfExp a b c pos) te) (r:PA X es t):PA X (.IfExp a b c pos::es) (zdf te t):=zbN h r rfl
theorem zd0 {a:Expr}{g:List Comprehension}{sc:Scope}(h:PE X (.ListComp a g sc pos) te) (r:PA X es t):PA X (.ListComp a g sc pos::es) (zdf te t):=zbN h r rfl
theorem zaw {a b:Expr}(h:PE X (.Subscript a b pos) te) (r:PA X es t):PA X (.Subscript a b pos::es) (zdf te t):=zbN h r rfl
theorem zeM {a:List Expr}(h:PE X (.List a pos) te) (r:PA X es t):PA X (.List a pos::es) (zdf te t):=zbN h r rfl
theorem zhC {a:List Expr}{k:Nat}(h:PE X (.Tuple a k pos) te) (r:PA X es t):PA X (.Tuple a k pos::es) (zdf te t):=zbN h r rfl
theorem za6 {a b:Expr}{o:Operator}(h:PE X (.BinOp a o b pos) te) (r:PA X es t):PA X (.BinOp a o b pos::es) (zdf te t):=zbN h r rfl
theorem zaL {f:Expr}{a:List Expr}{k:List Keyword}(h:PE X (.Call f a k pos) te) (r:PA X es t):PA X (.Call f a k pos::es) (zdf te t):=zbN h r rfl
theorem zbd {a:Expr}{x:Str}(h:PE X (.Attribute a x pos) te) (r:PA X es t):PA X (.Attribute a x pos::es) (zdf te t):=zbN h r rfl
end
section
variable {X : Cx} {e a b : Expr} {es : List Expr} {pos : Pos} {te ta tb : TE} {t : TA} {r : R2}
end
section
variable {X : Cx} {e : Expr} {st : Stmt} {rest a b : List Stmt} {pos : Pos} {te : TE} {t u : TS} {tc : TT}
end
theorem zee {t u:TS}{D:Ends}{σ:St}{H:Hp}(M:St→Hp→Prop) (h:∀ NX:St→Hp→Prop,(∀ σ H,M σ H→NX σ H)→t {D with nx:=NX} σ H) (tail:∀ σ H,M σ H→u D σ H):tSeq t u D σ H:=h _ tail
theorem znh {c:TT}{t u:TS}{D:Ends}{σ:St}{H:Hp}(h:∀ Q:Bool→Hp→Prop,Q false H→c σ H Q) (k:u D σ H):tSeq (tIfS c t zlU) u D σ H:=h _ (iteF k)
theorem zob {a:Addr} : decide (V.ref a=V.non)=false:=decide_eq_false (by intro z;cases z)
theorem ziy:decide (V.non=V.non)=true:=decide_eq_true rfl
theorem zpP {K:Fg}{H:Hp}{Q:VK}{a:Addr}{xs:List V}{lo hi:Option Int}(h:SqL K H a xs) (q:∀ p,H p=none→Q (.ref p) (upd H p (.lst (cutV xs lo hi)))):rSl K (.ref a) lo hi H Q:=.inl ⟨a,xs,rfl,h,q⟩
theorem cut_take {xs:List V}{k:Nat}(h:k≤xs.length):cutV xs none (some (k:Int))=xs.take k:=by
 unfold cutV
 rw[HT.sIx_none,HT.sIx_nat,List.drop_zero,Nat.sub_zero,Nat.min_eq_left h]
theorem zcn {n:Nat}{k:Int}(h0:0≤k) (h:k<(n:Int)):ixN n k=some k.toNat:=by
 unfold ixN
 rw[if_pos h0,if_pos h]
theorem Same.put {H0 H:Hp}{w:Addr}{o:HO}(s:Same H0 H) (h:H0 w=none):Same H0 (upd H w o):=λb u e=>by rw[zaj (zam e h)];exact s _ _ e
theorem zft {α:Type}{xs:List α}{k:Int}{x:α}(h0:0≤k) (h:xs[k.toNat]?=some x):atI xs k=some x:=by
 have:=zan (j:=k.toNat) h
 rwa [show ((k.toNat:Nat):Int)=k by omega] at this
section
variable {H0 H : Hp} {ga ka wa : Addr} {goal : List Int} {known : List (List Int)} {ws : List Int} {m n : Nat}
end
end L2

namespace L2
open PySem PySem.Spec PyProof.Rows PySem.W
theorem hr_u {k:Nat}{A:Around}(hr:Room k A):A.units+1<cLine:=by have:=hr.units;omega
section
variable {σ : St} {H : Hp} {Q : VK} {td ty tx tv : TE} {D : Ends}
theorem zpQ (h:td σ H λx H1=>ty σ H1 λy H2=>∃ a v,x=.ref a∧DGet H2 a y (some v)∧Q v H2):zpb td ty σ H Q:=h
theorem i_din (h:ty σ H λy H1=>td σ H1 λx H2=>∃ a o,x=.ref a∧DGet H2 a y o∧Q (.bl o.isSome) H2):tDIn ty td σ H Q:=h
theorem zmx (h:ty σ H λy H1=>td σ H1 λx H2=>∃ a o,x=.ref a∧DGet H2 a y o∧Q (.bl (!o.isSome)) H2):zkT ty td σ H Q:=h
theorem zpR (h:tv σ H λv H1=>td σ H1 λx H2=>ty σ H2 λy H3=>∃ a H4,x=.ref a∧DPut H3 a y v H4∧D.nx σ H4):zpc td ty tv D σ H:=h
theorem zpS {trs:List (TE × TE)}(h:∀ p,H p=none→zfi trs σ (upd H p (.dK [])) λps H2=>H2 p=some (.dK [])∧∃ kvs:List (Key × V),ps=kvs.map (λkv=>(kV kv.1,kv.2))∧kvs.length≤15∧Q (.ref p) (upd H2 p (.dK (zd7 [] kvs)))):zpd trs σ H Q:=h
theorem zmy {R:List (V × V)→Hp→Prop}(h:R [] H):zfi [] σ H R:=h
theorem zoc {tk:TE}{r:List (TE × TE)}{R:List (V × V)→Hp→Prop}(h:tk σ H λx H1=>tv σ H1 λy H2=>zfi r σ H2 λps H3=>R ((x,y)::ps) H3):zfi ((tk,tv)::r) σ H R:=h
end
end L2
namespace L2
open PySem PySem.Spec PyProof.Rows PySem.W
end L2

namespace L2
open PySem PySem.Spec PyProof.Rows PySem.W
def tFs (te:TE):TE:=λσ H Q=>te σ H λx H1=>∃ i:Int,x=.int i∧i.natAbs<zb9∧∀ z,Q (.str z) H1
section
variable {X : Cx} {e : Expr} {te : TE} {a b : Str} {k1 k2 : Nat} {p1 p2 p3 pos : Pos}
theorem pe_fs (he:PE X e te) (ha:a.length≤400) (hb:b.length≤400):PE X (.JoinedStr [.Constant (.str a) k1 p1,.FormattedValue e (-1) none p2,.Constant (.str b) k2 p3] pos) (tFs te):=by
 intro pins s σ H Q I h
 have e0:(Str.empty++a).length=a.length:=by rw[strLen_append];show 0+a.length=_;omega
 refine PySem.wpAny_JoinedStr ?_
 show Joins _ _ _ [eval (.Constant (.str a) k1 p1) X.env,eval (.FormattedValue e (-1) none p2) X.env,eval (.Constant (.str b) k2 p3) X.env] _ _ _
 refine Calls.Constant_str ⟨a,_,rfl,by rw[e0];exact zaC (by omega),?_⟩
 refine PySem.wpAny_FormattedValue_plain (thn (he pins _ σ H _ (I.tok _) h) λv s1 ⟨x,H1,I1,rx,i,ex,hi,q⟩=>?_)
 subst ex
 obtain⟨t,rfl⟩:=rx
 have l2:=zfs hi
 have e1:((Str.empty++a)++Str.ofString (toString i)).length=a.length+(Str.ofString (toString i)).length:=by rw[strLen_append,e0]
 have e2:(((Str.empty++a)++Str.ofString (toString i))++b).length=a.length+(Str.ofString (toString i)).length+b.length:=by rw[strLen_append,e1]
 refine PySem.wpAny_formatField_int (zhA hi) ⟨_,_,rfl,by rw[show ((Str.empty++a)++_).length=_ from e1];exact zaC (by omega),?_⟩
 refine Calls.Constant_str ⟨b,_,rfl,by rw[show (((Str.empty++a)++_)++b).length=_ from e2];exact zaC (by omega),?_⟩
 exact⟨by rw[show (((Str.empty++a)++_)++b).length=_ from e2];exact zaC (by omega),.str _,H1,(((I1.tok _).tok _).tok _).tok _,⟨_,rfl⟩,q _⟩
theorem i_fs {σ:St}{H:Hp}{Q:VK}(h:te σ H λx H1=>∃ i:Int,x=.int i∧i.natAbs<zb9∧∀ z,Q (.str z) H1):tFs te σ H Q:=h
end
theorem zni {P:Program}{w:World}{X:Cx} : zda (CX1 P w) X E0:=λ_ _ _ _ _ _ _ h=>by
 obtain⟨_,_,_,_,_,_,_,_,_,h⟩:=h
 exact h.elim
theorem zod {C:Value}{E:XK}{t:TA}{D:Ends}{σ:St}{H:Hp}(h:t σ H λvs H1=>vs.length≤sizeLine∧E C none H1):zng C E t D σ H:=h
end L2
namespace L2
open PySem PySem.Spec PyProof.Rows PySem.W
end L2
namespace L2
open PySem PySem.Spec PyProof.Rows PySem.W
theorem i_try {tb:XK→TS}{th:Value→Addr→TS}{D:Ends}{σ:St}{H:Hp}(h:tb (λC _ H'=>∀ a,th C a D σ H') D σ H):tTry tb th D σ H:=h
end L2

namespace L2
open PySem PySem.Spec PyProof.Rows PySem.W PySem.Calls
theorem ziz:∀ {ns:List Int}{us:List Value},ns.length=us.length→(∀ (j:Nat) (u:Value),us[j]?=some u→∃ (i:Int) (t:Tok),ns[j]?=some i∧u=Value.int i t)→Vals (ns.map V.int) us
 | [],[],_,_=>.nil
 | [],_::_,e,_=>by simp at e
 | _::_,[],e,_=>by simp at e
 | n::ns,u::us,e,h=>by
  obtain⟨i,t,e1,e2⟩:=h 0 u rfl
  have e1:n=i:=by simpa using e1
  subst e1
  exact .cons ⟨t,e2⟩ (ziz (by simpa using e) λj v hv=>by
   obtain⟨i,t,q1,q2⟩:=h (j+1) v (by simpa using hv)
   exact⟨i,t,by simpa using q1,q2⟩)
def znj:List V→Hp→VK→Prop:=λxs H Q=>∃ (a:Addr) (kvs:List (Key × V)) (ns:List Int),xs=[.ref a]∧H a=some (.dK kvs)∧kvs.map (·.1)=ns.map Sum.inl∧ns.length<64∧∀ (l:Addr) (ns':List Int),H l=none→ns'.Perm ns→ns'.Pairwise (·≤·)→Q (.ref l) (upd H l (.lst (ns'.map V.int)))
theorem zhD {X:Cx}(hc:X.calm=true):zcu X (.builtin "sorted") znj:=by
 intro pins s σ H xs us Q I r h
 obtain⟨a,kvs,ns,rfl,ha,hk,h64,q⟩:=h
 obtain⟨u,rfl,rx⟩:=zik r
 cases rx
 obtain⟨z,hd,vs,rel,dd⟩:=zir I.hok ha
 obtain⟨ep,hat⟩:=dd.dictAt
 have hl:=rel.length
 have lk:kvs.length=ns.length:=by
  have:=congrArg List.length hk
  simpa using this
 refine call_function_entry kind_sorted plain_sorted entry_sorted (args_sorted1 _) ?_
 unfold Builtin.«sorted»
 refine wpAny_bind (m:=checkCount "sorted" 1 1 _) (wpAny_pure ?_)
 refine wpAny_bind (kdu_collect (A:=X.A.in1) (kdl_dict (knd:=za9 X.prog X.w) (kvs:=vs) (ep:=ep) hd) (show X.A.in1.handled=none from I.ok.hd hc) hat (by rw[←hl];exact z) λh' tk acc hk' hacc=>?_)
 have hla:acc.toList.length=vs.length:=by rw[Array.length_toList];exact hacc.1
 have vl:Vals (ns.map V.int) acc.toList:=ziz (by omega) λj u hu=>by
  obtain⟨k,x,hx,hk2⟩:=hacc.2 j u (by rw[←Array.getElem?_toList];exact hu)
  have e:(vs.map (·.1))[j]?=some k:=by rw[zgm,hx];rfl
  rw[←rel.keys,hk,zgm] at e
  obtain⟨i,hi,rfl⟩:=zme.mp e
  rcases za2 (show zg3 (Sum.inl i) u=true from hk2) with ⟨i',t,e,rfl⟩ | ⟨x',t,e,rfl⟩
  ·cases e;exact⟨i,t,hi,rfl⟩
  ·cases e
 refine wpAny_bind (wpAny_newList ?_ (by rw[hla,←hl];exact z))
 have hoL:(h'.push {cls:=.type "list",data:=.seq acc.toList.toArray}).get? h'.objs.size=some (seqObj "list" acc.toList.toArray 0):=Heap.get?_push_size _ rfl
 have I1:Inv X pins σ H {s with heap:=h',toks:=tk}:=I.kept hk'
 refine wpAny_bind (wpAny_holding (wpAny_call_entry slot_list_sort ⟨_,hoL,rfl⟩ entry_list_sort (list_sort_tree hoL (zjN vl) (by omega) λout ns' a1 a2 a3=>⟨_,rfl,?_⟩) (args_list_sort _)))
 refine wpAny_pure ⟨_,rfl,?_⟩
 obtain⟨e,he⟩:=sortedHeap_at (out:=out) hoL
 have zn:(ns'.map V.int).length≤sizeLine:=by rw[zlm,a2.length_eq];exact zaC (by omega)
 refine⟨.ref h'.objs.size,_,I1.laid (a:=h'.objs.size) (t':=tk) (λb u hu=>?_) (Nat.le_refl _) (show zbr X.prog X.w _ _ _ (.lst (ns'.map V.int)) from ⟨zn,out.toList,e,zfk a1,by rw[Array.toArray_toList];exact he⟩),rfl,q _ _ I1.fresh a2 a3⟩
 have hu:h'.get? b=some u:=hu
 have hlt:=Heap.lt_size hu
 show (sortedHeap (h'.push {cls:=.type "list",data:=.seq acc.toList.toArray}) h'.objs.size acc.toList out).get? b=some u
 rw[sortedHeap_old (Nat.ne_of_lt hlt) (by rw[size_push'];exact Nat.lt_succ_of_lt hlt)]
 exact Heap.get?_push_of_some _ hu
def znk:List V→Hp→VK→Prop:=λxs H Q=>∃ (a:Addr) (kvs:List (Key × V)) (ns:List Int),xs=[.ref a]∧H a=some (.dK kvs)∧kvs.map (·.1)=ns.map Sum.inl∧∀ (l:Addr),H l=none→Q (.ref l) (upd H l (.lst (ns.map V.int)))
theorem zjZ {X:Cx}(hc:X.calm=true):zcu X (.type "list") znk:=by
 intro pins s σ H xs us Q I r h
 obtain⟨a,kvs,ns,rfl,ha,hk,q⟩:=h
 obtain⟨u,rfl,rx⟩:=zik r
 cases rx
 obtain⟨z,hd,vs,rel,dd⟩:=zir I.hok ha
 obtain⟨ep,hat⟩:=dd.dictAt
 have hl:=rel.length
 have lk:kvs.length=ns.length:=by
  have:=congrArg List.length hk
  simpa using this
 refine kdl_call (kdl_dict (knd:=za9 X.prog X.w) (kvs:=vs) (ep:=ep) hd) (I.ok.hd hc) hat (by rw[←hl];exact z) λh' tk acc c' hk' hS' hacc=>?_
 have hla:acc.toList.length=vs.length:=by rw[Array.length_toList];exact hacc.1
 have vl:Vals (ns.map V.int) acc.toList:=ziz (by omega) λj u hu=>by
  obtain⟨k,x,hx,hk2⟩:=hacc.2 j u (by rw[←Array.getElem?_toList];exact hu)
  have e:(vs.map (·.1))[j]?=some k:=by rw[zgm,hx];rfl
  rw[←rel.keys,hk,zgm] at e
  obtain⟨i,hi,rfl⟩:=zme.mp e
  rcases za2 (show zg3 (Sum.inl i) u=true from hk2) with ⟨i',t,e,rfl⟩ | ⟨x',t,e,rfl⟩
  ·cases e;exact⟨i,t,hi,rfl⟩
  ·cases e
 exact⟨.ref s.heap.objs.size,_,I.laid (t':=tk) hk' (Nat.le_refl _) (show zbr X.prog X.w _ _ _ (.lst (ns.map V.int)) from ⟨by rw[zlm];omega,acc.toList,c',vl,by rw[Array.toArray_toList];exact hS'⟩),rfl,q _ I.fresh⟩
theorem zoe {H:Hp}{Q:VK}{a:Addr}{kvs:List (Key × V)}{ns:List Int}(h:H a=some (.dK kvs)) (e:kvs.map (·.1)=ns.map Sum.inl) (q:∀ (l:Addr),H l=none→Q (.ref l) (upd H l (.lst (ns.map V.int)))):znk [.ref a] H Q:=⟨a,kvs,ns,rfl,h,e,q⟩
theorem ziA:bootBuiltins "sorted"=some (.builtin "sorted"):=by decide +kernel
theorem zof {H:Hp}{Q:VK}{a:Addr}{kvs:List (Key × V)}{ns:List Int}(h:H a=some (.dK kvs)) (e:kvs.map (·.1)=ns.map Sum.inl) (l:ns.length<64) (q:∀ (l:Addr) (ns':List Int),H l=none→ns'.Perm ns→ns'.Pairwise (·≤·)→Q (.ref l) (upd H l (.lst (ns'.map V.int)))):znj [.ref a] H Q:=⟨a,kvs,ns,rfl,h,e,l,q⟩
theorem zpT {σ:St}{H:Hp}{Q:VK}(h:∀ p,H p=none→Q (.ref p) (upd H p (.dK []))):zm7 σ H Q:=h
theorem zhE {κ:Type} [DecidableEq κ] (k j:κ):∀ kvs:List (κ × V),valV (zdd kvs k) j=if j=k then none else valV kvs j
 | []=>by simp[zdd,valV]
 | p::r=>by
  have ih:=zhE k j r
  by_cases e:p.1=k
  ·rw[zkZ e,ih]
   by_cases z:j=k
   ·rw[if_pos z,if_pos z]
   ·rw[if_neg z,if_neg z,zbl (λw=>z (w.symm.trans e))]
  ·rw[zk0 e]
   by_cases w:p.1=j
   ·rw[zbs w,zbs w,if_neg (λz=>e (w.trans z))]
   ·rw[zbl w,zbl w,ih]
section
variable {X : Cx} {e : Expr} {te : TE} {a : Str} {k1 : Nat} {p1 p2 pos : Pos}
theorem znl (he:PE X e te) (ha:a.length≤400):PE X (.JoinedStr [.Constant (.str a) k1 p1,.FormattedValue e (-1) none p2] pos) (tFs te):=by
 intro pins s σ H Q I h
 have e0:(Str.empty++a).length=a.length:=by rw[strLen_append];show 0+a.length=_;omega
 refine PySem.wpAny_JoinedStr ?_
 show Joins _ _ _ [eval (.Constant (.str a) k1 p1) X.env,eval (.FormattedValue e (-1) none p2) X.env] _ _ _
 refine Calls.Constant_str ⟨a,_,rfl,by rw[e0];exact zaC (by omega),?_⟩
 refine PySem.wpAny_FormattedValue_plain (thn (he pins _ σ H _ (I.tok _) h) λv s1 ⟨x,H1,I1,rx,i,ex,hi,q⟩=>?_)
 subst ex
 obtain⟨t,rfl⟩:=rx
 have l2:=zfs hi
 have e1:((Str.empty++a)++Str.ofString (toString i)).length=a.length+(Str.ofString (toString i)).length:=by rw[strLen_append,e0]
 refine PySem.wpAny_formatField_int (zhA hi) ⟨_,_,rfl,by rw[show ((Str.empty++a)++_).length=_ from e1];exact zaC (by omega),?_⟩
 exact⟨by rw[show ((Str.empty++a)++_).length=_ from e1];exact zaC (by omega),.str _,H1,((I1.tok _).tok _).tok _,⟨_,rfl⟩,q _⟩
end
section
variable {X : Cx} {k j : Nat} {C : Addr} {ps : List Str} {sp : Sp} {x : Str} {p pos : Pos}
theorem zpU (G:Mkr X.prog X.w X.K X.mg X.base x C ps j sp) (hr:Room k X.A) (hg:Gl X x) (hj:j+1≤k:=by decide) (hdb:(x == ("__debug__" : Str))=false:=by decide):PE X (.Call (.Name x p) [] [] pos) (zhb C sp [] E0 tNil):=by
 obtain⟨f,fd,M,F,hb,hm⟩:=G.ex
 exact zl3 M F (hr.mono hj) hg hm hb .nil za5 hdb
end
theorem zpV {C:Addr}{m:Str}{sp:Sp}{E:XK}{ta:TE}{t:TA}{σ:St}{H:Hp}{Q:VK}(h:ta σ H λx H1=>MethI C m x H1 (t σ H1 λvs H2=>sp (x::vs) H2 Q E)):zkI C m sp [] E ta t σ H Q:=by
 have e:(λ(x:V) (vs:List V) (H2:Hp)=>sp (x::(vs++[])) H2 Q E)=λx vs H2=>sp (x::vs) H2 Q E:=by funext x vs H2;rw[List.append_nil]
 show ta σ H λx H1=>MethI C m x H1 (t σ H1 λvs H2=>(λ(x:V) (vs:List V) (H2:Hp)=>sp (x::(vs++[])) H2 Q E) x vs H2)
 rw[e];exact h
theorem zog {σ:St}{H:Hp}{Q:VK}{td ty tx:TE}(h:td σ H λx H1=>∃ a,x=.ref a∧IsD H1 a∧ty σ H1 λy H2=>tx σ H2 λz H3=>∃ kvs k,H3 a=some (.dK kvs)∧y=kV k∧(∀ v,valV kvs k=some v→Q v (upd H3 a (.dK (zdd kvs k))))∧(valV kvs k=none→Q z H3)):zm8 td ty tx σ H Q:=h
end L2

namespace L2
open PySem PySem.Spec PyProof.Rows PySem.SeqAt
theorem ndS {N:List Str}(h:N.Nodup:=by decide +kernel):N.Nodup:=h
theorem COk.m {sc0:Scope}{N:List Str}{scope:Scope}{N':List Str}{ms:List Bool}(kind:scope.kind=.function:=by rfl) (nocell:∀ y∈scope.names,y.2≠.cell:=by decide +kernel)
  (nm:∀ y∈scope.names,y.2=.local→scope.names.lookup y.1=some .local:=by decide +kernel) (fr:∀ y∈scope.names,y.2=.free→sc0.names.lookup y.1=some .cell∨sc0.names.lookup y.1=some .free:=by decide +kernel)
  (len:ms.length=N'.length:=by rfl) (sl:zfo N scope N' ms (N.map some)=true:=by decide +kernel):COk sc0 N scope N' ms:=COk.mk' kind nocell nm fr len sl
section
variable {X : Cx} {k : Nat} {pins : List (Addr × Obj)} {σ : St} {H : Hp} {s : Shared}
end
def tTru (K:Fg) (ta:TE):TT:=λσ H Q=>ta σ H λx H'=>∃ k,TruV K x H' k∧Q k H'
theorem zpW {X:Cx}{a:Expr}{ta:TE}(K:Fg) (ha:PE X a ta) (hK:X.K=K:=by rfl) (he:∀ whole,isTrue a X.env whole=(do let v ←whole;standAt a.pos;holding [v] (truthy v)):=by intro _;rfl):PT X a (tTru K ta):=by subst hK;exact zl0 ha he
theorem i_tru {K:Fg}{ta:TE}{σ:St}{H:Hp}{Q:Bool→Hp→Prop}(h:ta σ H λx H'=>∃ k,TruV K x H' k∧Q k H'):tTru K ta σ H Q:=h
theorem znm {K:Fg}{H:Hp}{P:Bool→Prop}{a:Addr}{xs:List V}(h:SqL K H a xs) (q:P (!xs.isEmpty)):∃ k,TruV K (.ref a) H k∧P k:=⟨_,.inl ⟨xs,h,rfl⟩,q⟩
theorem zpX {H:Hp}{Q:VK}{a:Addr}{xs:List V}{y:V}(h:H a=some (.lst xs)) (e:xs[xs.length - 1]?=some y) (q:Q y (upd H a (.lst xs.dropLast))):rPop (.ref a) [] H Q:=⟨a,xs,y,rfl,rfl,h,e,q⟩
theorem znn {H:Hp}{Q:VK}{a:Addr}{xs:List V}{y:V}(h:H a=some (.lst (y::xs))) (q:Q y (upd H a (.lst xs))):zm5 (.ref a) [.int 0] H Q:=⟨a,y::xs,0,0,y,rfl,rfl,h,by decide,by decide,by unfold seqIndex?;simp,rfl,q⟩
mutual
theorem RepF.hasL {H:Hp} : ∀ (d:D) {v:V}{fp:List Addr},RepF H d v fp→∀ a∈fp,∃ xs,H a=some (.lst xs)
 | .non,_,_,h,a,m=>by unfold RepF at h;rw[h.2] at m;cases m
 | .bl _,_,_,h,a,m=>by unfold RepF at h;rw[h.2] at m;cases m
 | .int _,_,_,h,a,m=>by unfold RepF at h;rw[h.2] at m;cases m
 | .str _,_,_,h,a,m=>by unfold RepF at h;rw[h.2] at m;cases m
 | .lst ds,_,_,h,b,m=>by
  unfold RepF at h
  obtain⟨a,xs,r,h1,h0,h2,h3⟩:=h
  subst h0
  rcases List.mem_cons.mp m with rfl | m
  ·exact⟨_,h2⟩
  ·exact zak.hasL ds h3 b m
 | .tup ds,_,_,h,b,m=>by
  unfold RepF at h
  obtain⟨a,xs,h1,h2,h3⟩:=h
  exact zak.hasL ds h3 b m
theorem zak.hasL {H:Hp} : ∀ (ds:List D) {vs:List V}{fp:List Addr},zak H ds vs fp→∀ a∈fp,∃ xs,H a=some (.lst xs)
 | [],_,_,h,a,m=>by unfold zak at h;rw[h.2] at m;cases m
 | d::ds,_,_,h,b,m=>by
  unfold zak at h
  obtain⟨v,r,f,g,h1,h0,h2,h3⟩:=h
  subst h0
  rcases zma.mp m with m | m
  ·exact RepF.hasL d h2 b m
  ·exact zak.hasL ds h3 b m
end
end L2

namespace L2
open PySem PySem.Spec PySem.Calls PyProof.Rows PySem.W
theorem zmz {K:Fg}{x t c:Value}{H:Heap→Prop}(ty:∀ (M:Model) (h:Heap),K.In h→H h→Looks M h (typeOf x) t) (e:kitOne K t c=some true):Answers (λs=>K.In s.heap∧H s.heap) x c true:=by
 intro dep tk prog w A R s hs
 obtain⟨h0,g,d,tt,os⟩:=s
 obtain⟨⟨X,p⟩,hq⟩:=hs
 have LT:=ty (model prog w) h0 X p
 unfold kitOne at e
 unfold Builtin.«isinstance.nested»
 refine wpAny_bind (LT.at ?_)
 by_cases q:(t == c)=true
 ·rw[if_pos q]
  first
   | ((repeat lk);exact hq tt)
   | exact wpAny_bind (wpAny_rule (hq tt))
   | exact wpAny_bind (wpAny_rule (wpAny_pure (hq tt)))
 ·rw[if_neg q] at e
  rw[if_neg q]
  obtain⟨hty,his,hsub⟩:=kit_cls (M:=model prog w) X e
  have LI:Looks (model prog w) h0 (isInstance x c) true:=LT.andThen hsub
  refine wpAny_bind (hty.at ?_)
  rw[if_pos (by decide)]
  k_delta "plainIsInstance"
  refine wpAny_bind (wpAny_bind (his.at ?_))
  simp only[Bool.not_true,Bool.false_eq_true,if_false]
  refine wpAny_bind (LI.at ?_)
  first
   | exact wpAny_pure (wpAny_pure (hq tt))
   | (simp only[if_true];first | exact wpAny_pure (wpAny_pure (hq tt)) | exact wpAny_pure (hq tt) | exact wpAny_bind (wpAny_pure (wpAny_pure (hq tt))))
def rIsy (K:Fg) (a:Addr) (c:Value):List V→Hp→VK→Prop:=λxs H Q=>∃ C D anc ancD,xs=[.ref a,.ref D]∧c=.ref C∧Err K C anc∧Err K D ancD∧(Value.ref C::anc).contains (.ref D)=true∧Q (.bl true) H
theorem zpY {X:Cx}{a:Addr}{o:Obj}(hd:o.dict=none) (hn:∀ v,o.data≠.cls v) (K:Fg) (hK:X.K=K:=by rfl):zcu (XH X a o) (.builtin "isinstance") (rIsy K a o.cls):=by
 subst hK
 intro pins s σ H xs us Q I r h
 obtain⟨C,D,anc,ancD,rfl,hc,h1,h2,h3,q⟩:=h
 obtain⟨u,v,rfl,ru,rv⟩:=znA r
 cases ru;cases rv
 have e:kitOne X.K (.ref C) (.ref D)=some true:=by rw[zn8 h1 h2,h3]
 refine call_isinstance (S:=λ_ R s=>(X.K.In s.heap∧s.heap.get? a=some o)∧∀ tk,R (.ok (.ret (.bool true))) {s with toks:=tk})
  (λprog w A R s hs=>isinstance_outer (zmz (H:=λh=>h.get? a=some o) (λM h _ ho=>hc ▸ (Looks.ld ho).andThen .now) e 0 _ prog w A R s hs) (λz=>nomatch z)) ⟨⟨I.kIn,(I.pin (a,o) (List.mem_append_left _ (.head _))).1⟩,λtk=>⟨.bl _,H,I.tok tk,rfl,q⟩⟩
structure Kn (u:TS) (D:Ends) (NX:St→Hp→Prop):Prop where
 on:∀ σ H,u D σ H→NX σ H
theorem zno {t u:TS}{D:Ends}{σ:St}{H:Hp}(h:∀ NX:St→Hp→Prop,Kn u D NX→t {D with nx:=NX} σ H):tSeq t u D σ H:=h _ ⟨λ_ _ q=>q⟩
theorem goOn {u:TS}{D:Ends}{NX:St→Hp→Prop}{σ:St}{H:Hp}(k:Kn u D NX) (h:u D σ H):NX σ H:=k.on _ _ h
theorem i_ifK {c:TT}{t u:TS}{D:Ends}{σ:St}{H:Hp}(h:∀ T:St→Hp→Prop,Kn t D T→∀ U:St→Hp→Prop,Kn u D U→c σ H λb H1=>if b=true then T σ H1 else U σ H1):tIfS c t u D σ H:=h _ ⟨λ_ _ q=>q⟩ _ ⟨λ_ _ q=>q⟩
end L2

namespace L2
open PySem PySem.Spec PySem.Calls PyProof.Rows PySem.W
theorem zpZ {K:Fg}{a:Addr}{n q:Str}{ps:Arguments}{b:List Stmt}{sc:Scope}(h:zaM K a=some (zns n q ps b sc)) (hc:zap K a q=true) :
  ∃ oc od sl kV dc pm an cd ct,K.lookup a=some ⟨oc,od,.func (fnOf n q ps b sc .none kV dc pm an cd ct),sl⟩∧codeIn K cd q=true∧keepIn K (.ref a)=true:=by
 unfold zaM at h
 unfold zap at hc
 split at h
 ·rename_i oc od f sl e
  rw[e] at hc
  simp only[Bool.and_eq_true] at hc
  obtain⟨c1,c2⟩:=hc
  obtain⟨f1,f2,f3,f4,f5,f6,f7,f8,f9,f10,f11,f12,f13,f14,f15⟩:=f
  have h:=Option.some.inj h
  unfold zns at h
  simp only[Prod.mk.injEq] at h
  obtain⟨rfl,rfl,rfl,rfl,rfl,rfl,rfl,rfl,rfl⟩:=h
  exact⟨oc,od,sl,_,_,_,_,_,_,e,c1,c2⟩
 ·cases h
theorem exc_of {K:Fg}{C:Addr}{bm:List Value}{newId:String}(h:zfa K C bm newId=true) :
  ∃ nm q N bs hdct sn sub ab col dd k0 k1 k2 k3 k5,K.lookup C=some (excClassObj nm q C N bs bm hdct sn sub ab col dd k0 k1 k2 k3 k5 newId):=by
 unfold zfa at h
 split at h
 ·rename_i cl dd c sl e
  simp only[Bool.and_eq_true] at h
  obtain⟨⟨⟨h1,h2⟩,h3⟩,h4⟩:=h
  obtain⟨c1,c2,c3,c4,c5,c6,c7,c8,c9,c10,c11⟩:=c
  have h1:=eq_of_beq h1
  have h2:c3=.ref C::bm:=eq_of_beq h2
  have h30:c11=false:=by cases c11 <;> first | rfl | cases h3
  subst h1 h2 h30
  split at h4
  ·rename_i k0 k1 k2 k3 v k5 es
   have h4:=eq_of_beq h4
   subst h4
   have es:sl=#[k0,k1,k2,k3,some (.builtin newId),k5]:=by rw[←Array.toArray_toList (xs:=sl),es]
   subst es
   exact⟨_,_,_,_,_,_,_,_,_,_,_,_,_,_,_,e⟩
  ·cases h4
 ·cases h
theorem tup_of {K:Fg}{a:Addr}{vs:List Value}(h:zgg K a vs=true):∃ dd n ss,K.lookup a=some ⟨.type "tuple",dd,.seq vs.toArray n,ss⟩:=by
 unfold zgg at h
 split at h
 ·rename_i cl dd xs n ss e
  simp only[Bool.and_eq_true] at h
  obtain⟨h1,h2⟩:=h
  have h1:=eq_of_beq h1
  have h2:xs.toList=vs:=eq_of_beq h2
  subst h1 h2
  exact⟨dd,n,ss,by rw[Array.toArray_toList];exact e⟩
 ·cases h
theorem walk_ofE {l:PySem.W.OpenLaw}{n k:Nat}{q:Program}{loose:List Str}{XP:(Str→Option Value)→Heap→Prop}{YP:World→Heap→Prop}{d:DefRec}{S:Fg→Prop}{CX:CXT}{sp:Fg→Sp}{x:Str}
  (hn:l.most=some n) (hn2:n≤sizeLine) (hdf:d.params.defaults=[]) (hr:Room k callerA)
  (hY:∀ (w:World) (h:Heap),YP w h→∃ K:Fg,K.In h∧S K)
  (F:∀ (w:World) (K:Fg) (mg:Str→Option Value) (fa:Addr) (h:Heap),S K→K.In h→h.Ns mainGlobals mg→mg d.name=some (.ref fa)→
   ∃ fd:FuncData,(∀ (s:Shared) (u:Value),BindsTo s fd ⟨[u],[]⟩ [(x,u)])∧
    ∀ base:Heap,K.In base→base.Ns mainGlobals mg→FnOk l.prog w K mg base CX k fa fd [x] (sp K))
  (hsp:∀ (K:Fg) (H:Hp) (a:Addr) (ns:List Int),ns.length≤n→Only H→SqL K H a (ns.map V.int)→sp K [.ref a] H (λv _=>v=.bl true) λ_ _ _=>False)
  (hCX:∀ (H:Hp) (s:Shared) (e:Value) (s':Shared),CX [] H s (λ_ _ _=>False) e s'→False) :
  PySem.W.WalkO q loose XP YP l.row.toRowW d [] (λf vs=>PySem.call f vs):=by
 refine Att.attach_call hn hdf λw s₀ s₁ mg mb fa o pm cd doc a vs ns G Y ho hd hcd hmg hobj hints hlen hg=>?_
 obtain⟨K,KX,hS⟩:=hY w _ Y
 obtain⟨fd,hb,hF⟩:=F w K mg fa _ hS KX G.T.g hmg
 exact zl9 KX G.T.g G.T.b G.T.builtins G.T.nolimit hg hobj hints (Nat.le_trans hlen hn2) hr hF hb (λH hO hS=>hsp K H a ns hlen hO hS) λH e s'=>hCX H s₁ e s'
end L2

set_option maxHeartbeats 0
namespace L2
open PySem PySem.Spec PySem.Calls PyProof.Rows
section
variable {prog : Program} {w : World} {A : Around} {E : Value → Shared → Prop} {h : Heap} {g : Array GenState} {d : Drawn} {t : Nat} {os : OsState} {a : Addr} {o : Obj}
end
section
variable {prog : Program} {w : World} {A : Around} {E : Value → Shared → Prop} {h : Heap} {g : Array GenState} {d : Drawn} {t : Nat} {os : OsState} {a : Addr} {o : Obj} {its : Array Value} {n : Nat}
end
end L2

namespace L2
open PySem PySem.Spec PySem.Calls PyProof.Rows
section
variable {prog : Program} {w : World} {K : Type} [DecidableEq K] {knd : KeyKind prog w K} {A : Around}
end
end L2

namespace L2
open PySem PySem.Spec PySem.Calls PyProof.Rows
section
variable {prog : Program} {w : World} {K : Type} [DecidableEq K] {knd : KeyKind prog w K} {A : Around} {E : Value → Shared → Prop} {s : Shared}
end
end L2

namespace L2
open PySem PySem.Spec PySem.Calls PyProof.Rows PySem.W
end L2

namespace L2
open PySem PySem.Spec PySem.Calls PyProof.Rows PySem.W
section
variable {prog : Program} {w : World} {A : Around} {E : Value → Shared → Prop} {s : Shared} {R : Result → Shared → Prop}
end
end L2

namespace My
def mix (c k m:Int):Int:=(c % 2147483647+12345) * (48271+6 * k) % 1000000007 / 7 % m
def zmA (i:Int):Int:=if i=0 then 1000000000 else if i=1 then -1000000000 else if i=2 then 999999999 else -999999999
def number (c k:Int):Int:=
 if mix c k 9=0 then c % 2000000001 - 1000000000
 else if mix c k 9=1 then zmA (mix c (k+1) 4)
 else mix c (k+2) 9 - 4
theorem za7 {c k m:Int}(h:0<m):0≤mix c k m:=Int.emod_nonneg _ (by omega)
theorem zcR {c k m:Int}(h:0<m):mix c k m<m:=Int.emod_lt_of_pos _ h
theorem zmB (i:Int):-1000000000≤zmA i∧zmA i≤1000000000:=by
 unfold zmA
 split
 ·omega
 ·split
  ·omega
  ·split <;> omega
theorem zfu (c k:Int):-1000000000≤number c k∧number c k≤1000000000:=by
 unfold number
 split
 ·have h1:=Int.emod_nonneg c (show (2000000001:Int)≠0 by decide)
  have h2:=Int.emod_lt_of_pos c (show (0:Int)<2000000001 by decide)
  omega
 ·split
  ·exact zmB _
  ·have h1:=za7 (c:=c) (k:=k+2) (m:=9) (by decide)
   have h2:=zcR (c:=c) (k:=k+2) (m:=9) (by decide)
   omega
def cell (ns:List Int) (k:Int):Int:=ns.getD k.toNat 0
def dot:List Int→List Int→Int
 | f::fs,n::ns=>f * n+dot fs ns
 | _,_=>0
def zaV (l ns:List Int):Int:=l.headD 0+dot l.tail ns
theorem zc1:∀ (fs ns:List Int) (i:Nat) (f n:Int),fs[i]?=some f→ns[i]?=some n→dot (fs.take (i+1)) (ns.take (i+1))=dot (fs.take i) (ns.take i)+f * n
 | [],_,i,f,n,h,_=>by simp at h
 | _::_,[],i,f,n,_,h=>by simp at h
 | a::fs,b::ns,0,f,n,h1,h2=>by
  simp at h1 h2
  subst h1;subst h2
  simp[dot]
 | a::fs,b::ns,i+1,f,n,h1,h2=>by
  have ih:=zc1 fs ns i f n (by simpa using h1) (by simpa using h2)
  simp only[List.take_succ_cons,dot]
  rw[ih,Int.add_assoc]
end My

namespace My
theorem zc2 (h:Int) (t ns:List Int):zaV (h::t) ns=h+dot t ns:=rfl
end My

namespace My
open PySem L2
def zef (c:Int) (zero:List Int) (k:Nat):Bool:=inV (.int (0+(k:Int))) (zero.map V.int) || decide (mix c (60+(0+(k:Int))) 3=0)
def zbP (c:Int) (zero:List Int):List Int:=(List.range 9).map λj=>if decide (0<j) && zef c zero (j - 1) then 0 else number c (5 * (0+(j:Int)))
def zdn (c:Int) (zero:List Int) (i:Nat):List Int:=(List.range 9).map λj=>if decide (0<j) && decide (j - 1<i) && zef c zero (j - 1) then 0 else number c (5 * (0+(j:Int)))
theorem zlj {f:Nat→Int}{n p:Nat}{v:Int}(hp:p<n):((List.range n).map f).set p v=(List.range n).map λj=>if j=p then v else f j:=by
 refine List.ext_getElem? λi=>?_
 by_cases hi:i<n
 ·by_cases e:i=p
  ·subst e
   rw[List.getElem?_set_self (by simpa using hi),zgm,List.getElem?_range hi]
   simp
  ·rw[List.getElem?_set_ne (Ne.symm e),zgm,zgm,List.getElem?_range hi]
   simp[e]
 ·rw[List.getElem?_eq_none (by simp;omega),List.getElem?_eq_none (by simp;omega)]
theorem zc3 {f g:Nat→Int}{n:Nat}(h:∀ j,j<n→f j=g j):(List.range n).map f=(List.range n).map g:=
 List.map_congr_left λj hj=>h j (List.mem_range.mp hj)
theorem zlk {c:Int}{zero:List Int}{i:Nat}(hi:i<8) (h:zef c zero i=true):(zdn c zero i).set (i+1) 0=zdn c zero (i+1):=by
 unfold zdn
 rw[zlj (by omega)]
 refine zc3 λj hj=>?_
 by_cases e:j=i+1
 ·subst e;simp[h]
 ·rw[if_neg e]
  have:decide (j - 1<i)=decide (j - 1<i+1)∨j=0:=by
   by_cases h0:j=0
   ·exact .inr h0
   ·refine .inl (decide_eq_decide.mpr ⟨λz=>by omega,λz=>by omega⟩)
  rcases this with z | z
  ·rw[z]
  ·subst z;simp
theorem zj0 {c:Int}{zero:List Int}{i:Nat}(h:zef c zero i=false):zdn c zero i=zdn c zero (i+1):=by
 unfold zdn
 refine zc3 λj hj=>?_
 by_cases e:j=i+1
 ·subst e;simp[h]
 ·have:decide (j - 1<i)=decide (j - 1<i+1)∨j=0:=by
   by_cases h0:j=0
   ·exact .inr h0
   ·refine .inl (decide_eq_decide.mpr ⟨λz=>by omega,λz=>by omega⟩)
  rcases this with z | z
  ·rw[z]
  ·subst z;simp
theorem zj1 (c:Int) (zero:List Int):zdn c zero 0=(List.range 9).map λ(j:Nat)=>number c (5 * (0+(j:Int))):=by
 unfold zdn;refine zc3 λj hj=>?_;simp
theorem zll (c:Int) (zero:List Int):zdn c zero 8=zbP c zero:=by
 unfold zdn zbP
 refine zc3 λj hj=>?_
 have:decide (j - 1<8)=true:=decide_eq_true (by omega)
 rw[this,Bool.and_true]
theorem zbQ (c:Int) (zero:List Int):(zbP c zero).length=9:=by simp[zbP]
theorem zhF (c:Int) (zero:List Int) (i:Nat):(zdn c zero i).length=9:=by simp[zdn]
theorem zln {c:Int}{zero:List Int} : ∀ f∈zbP c zero,-1000000000≤f∧f≤1000000000:=λf h=>by
 obtain⟨k,_,rfl⟩:=zmm.mp h
 split
 ·omega
 ·exact zfu _ _
theorem ziB {c:Int}{zero:List Int}{k:Nat}(hk:k<8) (h:(k:Int)∈zero):(zbP c zero).getD (k+1) 0=0:=by
 unfold zbP
 rw[List.getD_eq_getElem?_getD,zgm,List.getElem?_range (by omega)]
 have:zef c zero k=true:=by
  unfold zef inV
  rw[Bool.or_eq_true]
  refine .inl ?_
  rw[List.any_map,List.any_eq_true]
  exact⟨(k:Int),h,by simp[eqV]⟩
 simp[this]
def zb5 (c:Int) (zero:List Int):List (List Int):=(List.range (mix c 20 3).toNat).map λ(k:Nat)=>zbP (c+77 * (0+(k:Int))) zero
theorem zj2 {c:Int}{zero:List Int}{l:List Int}(h:l∈zb5 c zero):∃ c',l=zbP c' zero:=by
 obtain⟨k,_,rfl⟩:=zmm.mp h
 exact⟨_,rfl⟩
theorem zlo (c:Int) (zero:List Int):(zb5 c zero).length≤2:=by
 have h1:=za7 (c:=c) (k:=20) (m:=3) (by decide)
 have h2:=zcR (c:=c) (k:=20) (m:=3) (by decide)
 simp[zb5];omega
def byOf (c:Int):Int:=if mix c 6 4=0 then 1 else if mix c 6 4=1 then 1000 else if mix c 6 4=2 then 1+mix c 5 1000 else 2
def zj3 (c:Int):Int:=number (c / 13) 7
def zgp (c:Int):Int:=if number (c / 17) 8>zj3 c then number (c / 17) 8 else zj3 c
def zlp (c count:Int):D:=
 if mix c 4 6=0 then .tup [.str "set",.int (mix c 3 4),nums (zbP (c / 11) [6,7])]
 else if mix c 4 6=1 then .tup [.str "part",.int (mix c 3 4),nums (zbP (c / 11) [6,7]),.int (byOf c)]
 else if mix c 4 6=2 then .tup [.str "draw",.int (mix c 3 4),.int (zj3 c),.int (zgp c)]
 else if mix c 4 6=3 then .tup [.str "turn",nums (zbP (c / 11) [6,7]),.int (mix c 9 (count+1))]
 else if mix c 4 6=4 then .tup [.str "hold",nums (zbP (c / 11) [6,7])]
 else .tup [.str "call",.int (mix c 12 100),.tup [.int (mix c 10 4),.int (mix c 11 4)],.tup [.int (mix c 3 4),.int ((mix c 3 4+1+mix c 13 3) % 4)]]
def zfv (ns:List Int) (start:Int):List (List Int):=zb5 (cell ns start) [0,1,2,3,6,7]
def zew (ns:List Int) (start:Int):List (List Int):=zb5 (cell ns (start+1)) [0,1,2,3]
def zgq (ns:List Int) (start count:Int):List D:=(List.range count.toNat).map λ(k:Nat)=>zlp (cell ns (start+2+(0+(k:Int)))) count
def zdo (ns:List Int) (start count:Int):List (List (List Int)):=(List.range count.toNat).map λ(k:Nat)=>zb5 (cell ns (start+2+(0+(k:Int))) / 19) [6,7]
def zaG (ls:List (List Int)):D:=.lst (ls.map nums)
def zlq (ns:List Int) (start count:Int):D:=.lst [zaG (zfv ns start),zaG (zew ns start),.lst (zgq ns start count),.lst ((zdo ns start count).map zaG)]
end My
namespace My
open PySem L2
end My
namespace My
open PySem L2
end My

namespace My
open PySem L2
inductive Dd where
 | set (hand:Int) (line:List Int) | part (hand:Int) (line:List Int) (by':Int) | draw (hand low high:Int)
 | turn (line:List Int) (place:Int) | hold (line:List Int) | call (number g0 g1 t0 t1:Int)
def toD:Dd→D
 | .set h l=>.tup [.str "set",.int h,nums l]
 | .part h l b=>.tup [.str "part",.int h,nums l,.int b]
 | .draw h lo hi=>.tup [.str "draw",.int h,.int lo,.int hi]
 | .turn l p=>.tup [.str "turn",nums l,.int p]
 | .hold l=>.tup [.str "hold",nums l]
 | .call n g0 g1 t0 t1=>.tup [.str "call",.int n,.tup [.int g0,.int g1],.tup [.int t0,.int t1]]
def zdp:Dd→Prop
 | .set _ l=>l.length=9
 | .part _ l _=>l.length=9
 | .turn l _=>l.length=9
 | .hold l=>l.length=9
 | _=>True
def btw (a b c:Int):Bool:=decide (a≤b) && decide (b≤c)
def zdq (n:Int):Bool:=btw (-1000000000) n 1000000000
def zbB (spots:List Nat) (l:List Int):Bool:=(l.map zdq).all id && (spots.map λs=>decide (l.getD s 0=0)).all id
def zco (spots:List Nat) (ls:List (List Int)):Bool:=decide ((ls.length:Int)≤2) && (ls.map (zbB spots)).all id
def zbp (h:Int):Bool:=btw 0 h 3
def zaY (n:Int):Dd→Bool
 | .set h l=>zbp h && zbB [7,8] l
 | .part h l b=>zbp h && (zbB [7,8] l && btw 1 b 1000)
 | .draw h lo hi=>zbp h && (zdq lo && (zdq hi && decide (lo≤hi)))
 | .turn l p=>zbB [7,8] l && btw 0 p n
 | .hold l=>zbB [7,8] l
 | .call m g0 g1 t0 t1=>([zbp g0,zbp g1].all id && [zbp t0,zbp t1].all id) && (btw 0 m 99 && !decide (t0=t1))
def zeN (needs leaves:List (List Int)):Bool:=zco [1,2,3,4,7,8] needs && zco [1,2,3,4] leaves
def zdr (deeds:List Dd):Bool:=btw 1 (deeds.length:Int) 8 && (deeds.map (zaY (deeds.length:Int))).all id
def zds (deeds:List Dd) (notes:List (List (List Int))):Bool:=decide ((notes.length:Int)=(deeds.length:Int)) && (notes.map (zco [7,8])).all id
def zbW (needs leaves:List (List Int)) (deeds:List Dd) (notes:List (List (List Int))):Bool:=zeN needs leaves && (zdr deeds && zds deeds notes)
end My

namespace My
open PySem L2
def ziC (c count:Int):Dd:=
 if mix c 4 6=0 then .set (mix c 3 4) (zbP (c / 11) [6,7])
 else if mix c 4 6=1 then .part (mix c 3 4) (zbP (c / 11) [6,7]) (byOf c)
 else if mix c 4 6=2 then .draw (mix c 3 4) (zj3 c) (zgp c)
 else if mix c 4 6=3 then .turn (zbP (c / 11) [6,7]) (mix c 9 (count+1))
 else if mix c 4 6=4 then .hold (zbP (c / 11) [6,7])
 else .call (mix c 12 100) (mix c 10 4) (mix c 11 4) (mix c 3 4) ((mix c 3 4+1+mix c 13 3) % 4)
theorem zlr (c count:Int):toD (ziC c count)=zlp c count:=by
 unfold ziC zlp
 split
 ·rfl
 split
 ·rfl
 split
 ·rfl
 split
 ·rfl
 split <;> rfl
theorem ziD (c count:Int):zdp (ziC c count):=by
 unfold ziC
 split
 ·exact zbQ _ _
 split
 ·exact zbQ _ _
 split
 ·trivial
 split
 ·exact zbQ _ _
 split
 ·exact zbQ _ _
 ·trivial
theorem zcS {α:Type}{l:List α}{f:α→Bool}(h:∀ x∈l,f x=true):(l.map f).all id=true:=by
 rw[List.all_map]
 exact List.all_eq_true.mpr λx m=>h x m
theorem zbt {a b c:Int}(h1:a≤b) (h2:b≤c):btw a b c=true:=by unfold btw;rw[decide_eq_true h1,decide_eq_true h2];rfl
theorem zdt {c:Int}{zero:List Int}{spots:List Nat}(h:∀ s∈spots,∃ k:Nat,s=k+1∧k<8∧(k:Int)∈zero):zbB spots (zbP c zero)=true:=by
 unfold zbB
 rw[zcS λx m=>?_,zcS λs m=>?_]
 ·rfl
 ·obtain⟨k,rfl,hk,hz⟩:=h s m
  exact decide_eq_true (ziB hk hz)
 ·obtain⟨h1,h2⟩:=zln x m
  exact zbt h1 h2
theorem zhG:∀ s∈([7,8]:List Nat),∃ k:Nat,s=k+1∧k<8∧(k:Int)∈([6,7]:List Int):=λs m=>by
 rcases List.mem_cons.mp m with z | m
 ·exact⟨6,z,by decide,by decide⟩
 ·exact⟨7,zms.mp m,by decide,by decide⟩
theorem zp0:∀ s∈([1,2,3,4]:List Nat),∃ k:Nat,s=k+1∧k<8∧(k:Int)∈([0,1,2,3]:List Int):=λs m=>by
 have:s=1∨s=2∨s=3∨s=4:=by simpa using m
 rcases this with z | z | z | z
 ·exact⟨0,z,by decide,by decide⟩
 ·exact⟨1,z,by decide,by decide⟩
 ·exact⟨2,z,by decide,by decide⟩
 ·exact⟨3,z,by decide,by decide⟩
theorem zp1:∀ s∈([1,2,3,4,7,8]:List Nat),∃ k:Nat,s=k+1∧k<8∧(k:Int)∈([0,1,2,3,6,7]:List Int):=λs m=>by
 have:s=1∨s=2∨s=3∨s=4∨s=7∨s=8:=by simpa using m
 rcases this with z | z | z | z | z | z
 ·exact⟨0,z,by decide,by decide⟩
 ·exact⟨1,z,by decide,by decide⟩
 ·exact⟨2,z,by decide,by decide⟩
 ·exact⟨3,z,by decide,by decide⟩
 ·exact⟨6,z,by decide,by decide⟩
 ·exact⟨7,z,by decide,by decide⟩
theorem zex {c:Int}{zero:List Int}{spots:List Nat}(h:∀ s∈spots,∃ k:Nat,s=k+1∧k<8∧(k:Int)∈zero):zco spots (zb5 c zero)=true:=by
 unfold zco
 have:=zlo c zero
 rw[decide_eq_true (by omega),zcS λl m=>?_]
 ·rfl
 ·obtain⟨c',rfl⟩:=zj2 m
  exact zdt h
theorem ze6 (c k:Int):zbp (mix c k 4)=true:=by
 have h1:=za7 (c:=c) (k:=k) (m:=4) (by decide)
 have h2:=zcR (c:=c) (k:=k) (m:=4) (by decide)
 exact zbt h1 (by omega)
theorem zmC {c count:Int}(hc:0≤count):zaY count (ziC c count)=true:=by
 unfold ziC
 split
 ·simp only[zaY];rw[ze6,zdt zhG];rfl
 split
 ·simp only[zaY];rw[ze6,zdt zhG,Bool.true_and,Bool.true_and]
  unfold byOf
  have h1:=za7 (c:=c) (k:=5) (m:=1000) (by decide)
  have h2:=zcR (c:=c) (k:=5) (m:=1000) (by decide)
  split
  ·exact zbt (by decide) (by decide)
  split
  ·exact zbt (by decide) (by decide)
  split
  ·exact zbt (by omega) (by omega)
  ·exact zbt (by decide) (by decide)
 split
 ·simp only[zaY]
  obtain⟨h1,h2⟩:=zfu (c / 13) 7
  obtain⟨h3,h4⟩:=zfu (c / 17) 8
  have e1:zdq (zj3 c)=true:=zbt h1 h2
  have e2:zdq (zgp c)=true:=by
   unfold zgp
   split
   ·exact zbt h3 h4
   ·exact zbt h1 h2
  have e3:zj3 c≤zgp c:=by
   unfold zgp
   split
   ·omega
   ·omega
  rw[ze6,e1,e2,decide_eq_true e3];rfl
 split
 ·simp only[zaY];rw[zdt zhG,Bool.true_and]
  have h1:=za7 (c:=c) (k:=9) (m:=count+1) (by omega)
  have h2:=zcR (c:=c) (k:=9) (m:=count+1) (by omega)
  exact zbt h1 (by omega)
 split
 ·simp only[zaY];exact zdt zhG
 ·simp only[zaY]
  have h1:=za7 (c:=c) (k:=12) (m:=100) (by decide)
  have h2:=zcR (c:=c) (k:=12) (m:=100) (by decide)
  have h3:=za7 (c:=c) (k:=3) (m:=4) (by decide)
  have h4:=zcR (c:=c) (k:=3) (m:=4) (by decide)
  have h5:=za7 (c:=c) (k:=13) (m:=3) (by decide)
  have h6:=zcR (c:=c) (k:=13) (m:=3) (by decide)
  have e1:zbp ((mix c 3 4+1+mix c 13 3) % 4)=true:=zbt (by omega) (by omega)
  have e2:¬ mix c 3 4=(mix c 3 4+1+mix c 13 3) % 4:=by omega
  rw[zbt h1 (by omega),decide_eq_false e2]
  simp[ze6,e1]
def zeg (ns:List Int) (start count:Int):List Dd:=(List.range count.toNat).map λ(k:Nat)=>ziC (cell ns (start+2+(0+(k:Int)))) count
theorem zj4 (ns:List Int) (start count:Int):(zeg ns start count).map toD=zgq ns start count:=by
 unfold zeg zgq
 rw[List.map_map]
 exact List.map_congr_left λk _=>zlr _ _
theorem zj5 {ns:List Int}{start count:Int}(h1:1≤count) (h8:count≤8):zbW (zfv ns start) (zew ns start) (zeg ns start count) (zdo ns start count)=true:=by
 have ld:((zeg ns start count).length:Int)=count:=by unfold zeg;simp;omega
 have ln:((zdo ns start count).length:Int)=count:=by unfold zdo;simp;omega
 unfold zbW zeN zdr zds zfv zew
 rw[zex zp1,zex zp0,ld,ln,decide_eq_true rfl,zbt h1 h8,zcS λd m=>?_,zcS λls m=>?_]
 ·rfl
 ·obtain⟨k,_,rfl⟩:=zmm.mp m
  exact zex zhG
 ·obtain⟨k,_,rfl⟩:=zmm.mp m
  exact zmC (by omega)
end My

namespace My
end My

namespace My
open PySem L2
section
variable {needs leaves : List (List Int)} {deeds : List Dd} {notes : List (List (List Int))}
end
end My

namespace My
end My

namespace My
open PySem L2 PyProof.Rows
def zj6 (H:Hp):List D→List V→Prop
 | [],[]=>True
 | d::ds,x::xs=>Part H d x∧zj6 H ds xs
 | _,_=>False
theorem zhH {H:Hp} : ∀ {ds:List D}{xs:List V},ds.length=xs.length→(∀ (i:Nat) dd x,ds[i]?=some dd→xs[i]?=some x→Part H dd x)→zj6 H ds xs
 | [],[],_,_=>trivial
 | [],_::_,e,_=>by simp at e
 | _::_,[],e,_=>by simp at e
 | d::ds,x::xs,e,h=>⟨h 0 d x rfl rfl,zhH (by simpa using e) λi dd y e1 e2=>h (i+1) dd y (by simpa using e1) (by simpa using e2)⟩
theorem zaT {H:Hp}{ds:List D}{v:V}(h:zc0 H (.tup ds) v):∃ t xs,v=.ref t∧H t=some (.tup xs)∧zj6 H ds xs:=by
 obtain⟨t,xs,ds',e,rfl,h1,h2,_,h3⟩:=h
 cases e
 exact⟨t,xs,rfl,h1,zhH h2 h3⟩
theorem zal {H:Hp}{d:D}{ds:List D}{xs:List V}(h:zj6 H (d::ds) xs):∃ x r,xs=x::r∧Part H d x∧zj6 H ds r:=by
 cases xs with
 | nil=>exact h.elim
 | cons x r=>exact⟨x,r,rfl,h.1,h.2⟩
theorem zbi {H:Hp}{xs:List V}(h:zj6 H [] xs):xs=[]:=by
 cases xs with
 | nil=>rfl
 | cons x r=>exact h.elim
theorem zbc {H:Hp}{s:Str}{x:V}(h:Part H (.str s) x):x=.str s:=by
 rcases h with ⟨i,e,_⟩ | ⟨z,e,rfl⟩ | ⟨b,l,e,_⟩ | ⟨b,i,j,e,_⟩ <;> cases e
 rfl
theorem za4 {H:Hp}{s:Int}{x:V}(h:Part H (.int s) x):x=.int s:=by
 rcases h with ⟨i,e,rfl⟩ | ⟨z,e,_⟩ | ⟨b,l,e,_⟩ | ⟨b,i,j,e,_⟩ <;> cases e
 rfl
theorem zjl:∀ {l m:List Int},l.map D.int=m.map D.int→l=m
 | [],[],_=>rfl
 | [],_::_,e=>by simp at e
 | _::_,[],e=>by simp at e
 | a::l,b::m,e=>by
  rw[zmc,zmc] at e
  injection e with e1 e2
  injection e1 with e1
  rw[e1,zjl e2]
theorem zb6 {H:Hp}{l:List Int}{x:V}(h:Part H (nums l) x):∃ b,x=.ref b∧H b=some (.lst (l.map V.int)):=by
 rcases h with ⟨i,e,_⟩ | ⟨z,e,_⟩ | ⟨b,m,e,h1,h2⟩ | ⟨b,i,j,e,_⟩
 ·cases e
 ·cases e
 ·injection e with e
  rw[zjl e]
  exact⟨b,h1,h2⟩
 ·cases e
theorem zeh {H:Hp}{i j:Int}{x:V}(h:Part H (.tup [.int i,.int j]) x):∃ b,x=.ref b∧H b=some (.tup [.int i,.int j]):=by
 rcases h with ⟨i',e,_⟩ | ⟨z,e,_⟩ | ⟨b,m,e,h1,h2⟩ | ⟨b,i',j',e,h1,h2⟩
 ·cases e
 ·cases e
 ·cases e
 ·cases e
  exact⟨b,h1,h2⟩
def R2 {α:Type}(P:α→V→Prop) (as:List α) (xs:List V):Prop:=as.length=xs.length∧∀ (i:Nat) a x,as[i]?=some a→xs[i]?=some x→P a x
theorem R2.mono {α:Type}{P P':α→V→Prop}{as:List α}{xs:List V}(h:R2 P as xs) (m:∀ a x,P a x→P' a x):R2 P' as xs:=⟨h.1,λi a x e1 e2=>m a x (h.2 i a x e1 e2)⟩
def zc4 (H:Hp):List Dd→List V→Prop:=R2 λd x=>zc0 H (toD d) x
theorem zc4.same {H H':Hp}{ds:List Dd}{xs:List V}(e:Same H H') (h:zc4 H ds xs):zc4 H' ds xs:=R2.mono h λ_ _ z=>z.sq e.sq
def zoh:Dd→Str
 | .set _ _=>"set"
 | .part _ _ _=>"part"
 | .draw _ _ _=>"draw"
 | .turn _ _=>"turn"
 | .hold _=>"hold"
 | .call _ _ _ _ _=>"call"
theorem zoi {H:Hp}{d:Dd}{x:V}(h:zc0 H (toD d) x):∃ t xs,x=.ref t∧H t=some (.tup (.str (zoh d)::xs)):=by
 cases d <;> (obtain⟨t,xs,rfl,h1,px⟩:=zaT h;obtain⟨x0,r,rfl,e0,px⟩:=zal px;cases zbc e0;exact⟨t,r,rfl,h1⟩)
theorem zei {d:Dd}(h:zdp d):Deed (toD d):=by
 cases d with
 | set hd l=>exact⟨_,rfl,by simp,λc hc=>by
   simp at hc
   rcases hc with rfl | rfl | rfl
   ·exact .inr (.inl ⟨_,rfl⟩)
   ·exact .inl ⟨_,rfl⟩
   ·exact .inr (.inr (.inl ⟨l,h,rfl⟩))⟩
 | part hd l b=>exact⟨_,rfl,by simp,λc hc=>by
   simp at hc
   rcases hc with rfl | rfl | rfl | rfl
   ·exact .inr (.inl ⟨_,rfl⟩)
   ·exact .inl ⟨_,rfl⟩
   ·exact .inr (.inr (.inl ⟨l,h,rfl⟩))
   ·exact .inl ⟨_,rfl⟩⟩
 | draw hd lo hi=>exact⟨_,rfl,by simp,λc hc=>by
   simp at hc
   rcases hc with rfl | rfl | rfl | rfl
   ·exact .inr (.inl ⟨_,rfl⟩)
   ·exact .inl ⟨_,rfl⟩
   ·exact .inl ⟨_,rfl⟩
   ·exact .inl ⟨_,rfl⟩⟩
 | turn l p=>exact⟨_,rfl,by simp,λc hc=>by
   simp at hc
   rcases hc with rfl | rfl | rfl
   ·exact .inr (.inl ⟨_,rfl⟩)
   ·exact .inr (.inr (.inl ⟨l,h,rfl⟩))
   ·exact .inl ⟨_,rfl⟩⟩
 | hold l=>exact⟨_,rfl,by simp,λc hc=>by
   simp at hc
   rcases hc with rfl | rfl
   ·exact .inr (.inl ⟨_,rfl⟩)
   ·exact .inr (.inr (.inl ⟨l,h,rfl⟩))⟩
 | call m g0 g1 t0 t1=>exact⟨_,rfl,by simp,λc hc=>by
   simp at hc
   rcases hc with rfl | rfl | rfl | rfl
   ·exact .inr (.inl ⟨_,rfl⟩)
   ·exact .inl ⟨_,rfl⟩
   ·exact .inr (.inr (.inr ⟨_,_,rfl⟩))
   ·exact .inr (.inr (.inr ⟨_,_,rfl⟩))⟩
end My

namespace My
theorem zeros9e:List.replicate 9 (0:Int)=[0,0,0,0,0,0,0,0,0]:=rfl
end My

namespace My
open PySem L2 PyProof.Rows
theorem zoj {c:TT}{t u:TS}{D:Ends}{σ:L2.St}{H:Hp}(h:∀ Q:Bool→Hp→Prop,(∀ H',Same H H'→Q false H')→c σ H Q) (k:∀ H',Same H H'→u D σ H'):tSeq (tIfS c t zlU) u D σ H:=h _ λH' s=>iteF (k H' s)
theorem zhI {xs:List V}{k:Int}(h0:0≤k):cutV xs none (some k)=xs.take k.toNat:=by
 have e:k=(k.toNat:Int):=by omega
 rw[e]
 unfold cutV
 rw[HT.sIx_none,HT.sIx_nat,List.drop_zero,Nat.sub_zero,Int.toNat_natCast]
 by_cases z:k.toNat≤xs.length
 ·rw[Nat.min_eq_left z]
 ·rw[Nat.min_eq_right (by omega),List.take_of_length_le (Nat.le_refl _),List.take_of_length_le (by omega)]
def NoD (H H':Hp):Prop:=∀ b o,H b=some o→(∀ kvs,o≠HO.dK kvs)→H' b=some o
theorem _root_.L2.Same.nod {H H':Hp}(e:Same H H'):NoD H H':=λb o h _=>e b o h
theorem NoD.trans {H H1 H2:Hp}(a:NoD H H1) (b:NoD H1 H2):NoD H H2:=λc o h n=>b c o (a c o h n) n
theorem zgN {H:Hp}{p:Addr}{o:HO}{kvs:List (Key × V)}(h:H p=some (.dK kvs)):NoD H (upd H p o):=λb u e n=>by
 rw[zaj (λz=>by rw[z,h] at e;exact n kvs (Option.some.inj e).symm)]
 exact e
theorem NoD.sq {H H':Hp}(e:NoD H H'):Sq H H':=λb o h q=>e b o h λkvs z=>by rw[z] at q;cases q
theorem zls {κ:Type} [DecidableEq κ] (kvs:List (κ × V)) (k:κ) (v:V):(putK kvs k v).map (·.1)=if k∈kvs.map (·.1) then kvs.map (·.1) else kvs.map (·.1)++[k]:=by
 cases h:valV kvs k with
 | some y=>
  rw[if_pos (zkX h)]
  unfold putK
  rw[zcx,h]
  rw[if_pos (show (some y).isSome=true from rfl),List.map_map]
  refine List.map_congr_left λp _=>?_
  show (if p.1=k then (p.1,v) else p).1=p.1
  split <;> rfl
 | none=>rw[if_neg (zmb h),zl6 v h,List.map_append];rfl
theorem ziE {ks:List Int}{m:Int} : (Sum.inl m:Key)∈ks.map (Sum.inl:Int→Key)↔m∈ks:=by
 constructor
 ·intro h
  obtain⟨x,hx,e⟩:=zmm.mp h
  injection e with e
  rw[←e];exact hx
 ·intro h;exact List.mem_map_of_mem h
theorem zj7 {ks:List Int}{m:Int} : (ks.map (Sum.inl:Int→Key)).filter (λk=>decide (k≠Sum.inl m))=(ks.filter λk=>decide (k≠m)).map Sum.inl:=by
 rw[List.filter_map]
 congr 1
 refine List.filter_congr λx _=>?_
 show decide ((Sum.inl x:Key)≠Sum.inl m)=decide (x≠m)
 refine decide_eq_decide.mpr ⟨λh z=>h (by rw[z]),λh z=>h (by injection z)⟩
theorem zj8 {kvs:List (Key × V)}{k:Key} : (zdd kvs k).map (·.1)=(kvs.map (·.1)).filter (λj=>decide (j≠k)):=by
 unfold zdd
 rw[List.filter_map]
 rfl
def KVs (P:Int→V→Prop) (kvs:List (Key × V)) (ks:List Int):Prop:=kvs.map (·.1)=ks.map Sum.inl∧ks.Nodup∧∀ m∈ks,∃ v,valV kvs (.inl m)=some v∧P m v
theorem KVs.nil {P:Int→V→Prop} : KVs P [] []:=⟨rfl,List.nodup_nil,λm hm=>by simp at hm⟩
theorem KVs.mono {P P':Int→V→Prop}{kvs:List (Key × V)}{ks:List Int}(h:KVs P kvs ks) (m:∀ k v,P k v→P' k v):KVs P' kvs ks:=⟨h.1,h.2.1,λk hk=>by
 obtain⟨v,h1,h2⟩:=h.2.2 k hk
 exact⟨v,h1,m k v h2⟩⟩
theorem KVs.len {P:Int→V→Prop}{kvs:List (Key × V)}{ks:List Int}(h:KVs P kvs ks):kvs.length=ks.length:=by
 have:=congrArg List.length h.1
 simpa using this
theorem KVs.no {P:Int→V→Prop}{kvs:List (Key × V)}{ks:List Int}{m:Int}(h:KVs P kvs ks) (n:m∉ks):valV kvs (.inl m)=none:=by
 cases e:valV kvs (.inl m) with
 | none=>rfl
 | some v=>
  have:=zkX e
  rw[h.1] at this
  exact absurd (ziE.mp this) n
theorem KVs.put {P:Int→V→Prop}{kvs:List (Key × V)}{ks:List Int}{m:Int}{v:V}(h:KVs P kvs ks) (hv:P m v):KVs P (putK kvs (.inl m) v) (if m∈ks then ks else ks++[m]):=by
 refine⟨?_,?_,λk hk=>?_⟩
 ·rw[zls,h.1]
  by_cases z:m∈ks
  ·rw[if_pos (ziE.mpr z),if_pos z]
  ·rw[if_neg (λw=>z (ziE.mp w)),if_neg z,List.map_append];rfl
 ·by_cases z:m∈ks
  ·rw[if_pos z];exact h.2.1
  ·rw[if_neg z];exact zkY h.2.1 z
 ·rw[zjb]
  by_cases e:k=m
  ·subst e;exact⟨v,by rw[if_pos rfl],hv⟩
  ·rw[if_neg (λw=>e (by injection w))]
   refine h.2.2 k ?_
   by_cases z:m∈ks
   ·rw[if_pos z] at hk;exact hk
   ·rw[if_neg z] at hk
    rcases zma.mp hk with w | w
    ·exact w
    ·exact absurd (zms.mp w) e
theorem KVs.put' {P P':Int→V→Prop}{kvs:List (Key × V)}{ks:List Int}{m:Int}{v:V}(h:KVs P kvs ks) (hv:P' m v) (hP:∀ k v,k≠m→P k v→P' k v):KVs P' (putK kvs (.inl m) v) (if m∈ks then ks else ks++[m]):=by
 have h0:KVs (λk w=>k=m∧w=v∨P k w) (putK kvs (.inl m) v) (if m∈ks then ks else ks++[m]):=(h.mono λk w z=>.inr z).put (.inl ⟨rfl,rfl⟩)
 refine⟨h0.1,h0.2.1,λk hk=>?_⟩
 by_cases e:k=m
 ·subst e
  exact⟨v,by rw[zjb,if_pos rfl],hv⟩
 ·obtain⟨w,e1,e2⟩:=h0.2.2 k hk
  rcases e2 with ⟨e2,_⟩ | e2
  ·exact absurd e2 e
  ·exact⟨w,e1,hP k w e e2⟩
theorem KVs.drop {P:Int→V→Prop}{kvs:List (Key × V)}{ks:List Int}{m:Int}(h:KVs P kvs ks):KVs P (zdd kvs (.inl m)) (ks.filter λk=>decide (k≠m)):=by
 refine⟨by rw[zj8,h.1];exact zj7,h.2.1.filter _,λk hk=>?_⟩
 obtain⟨h1,h2⟩:=List.mem_filter.mp hk
 have h2:k≠m:=of_decide_eq_true h2
 rw[zhE,if_neg (λw=>h2 (by injection w))]
 exact h.2.2 k h1
def Sm (l:List Int):Prop:=∀ n∈l,-(2 ^ 64)<n∧n<2 ^ 64
def zd1:Dd→Option Int
 | .call m _ _ _ _=>some m
 | _=>none
def zey (deeds:List Dd):List Int:=deeds.filterMap zd1
def OffA (S:List Addr) (H H':Hp):Prop:=∀ b o,b∉S→H b=some o→H' b=some o
theorem _root_.L2.Same.offA {S:List Addr}{H H':Hp}(e:Same H H'):OffA S H H':=λb o _ h=>e b o h
theorem OffA.trans {S:List Addr}{H H1 H2:Hp}(a:OffA S H H1) (b:OffA S H1 H2):OffA S H H2:=λc o n h=>b c o n (a c o n h)
theorem zbn {S:List Addr}{H:Hp}{p:Addr}{o:HO}(h:p∈S):OffA S H (upd H p o):=λb u n e=>by
 rw[zaj (λz=>n (by rw[z];exact h))];exact e
theorem OffA.nod {S:List Addr}{H H':Hp}(e:OffA S H H') (h:∀ a∈S,∃ kvs,H a=some (.dK kvs)):NoD H H':=λb o hb n=>e b o (λz=>by
 obtain⟨kvs,hk⟩:=h b z
 rw[hk] at hb
 exact n kvs (Option.some.inj hb).symm) hb
structure Cr where
 needs:List (List Int)
 leaves:List (List Int)
 deeds:List Dd
 notes:List (List (List Int))
def hfl (la va:Addr):List (Str × V):=putF "vouched" (.ref va) (putF "laid" (.ref la) [])
theorem zd2 (la va:Addr):(hfl la va).lookup ("laid" : Str)=some (.ref la):=by
 unfold hfl
 rw[zaN,if_neg (by decide +kernel),zaN,if_pos rfl]
theorem zgr (la va:Addr):(hfl la va).lookup ("vouched" : Str)=some (.ref va):=by
 unfold hfl
 rw[zaN,if_pos rfl]
theorem ziF {la va:Addr}{m:Str}(h1:¬ m ="vouched") (h2:¬ m ="laid"):(hfl la va).lookup m=none:=by
 unfold hfl
 rw[zaN,if_neg h1,zaN,if_neg h2]
 rfl
theorem zjm {n:Int} : ∀ {l:List Int},inV (.int n) (l.map V.int)=decide (n∈l)
 | []=>by simp[inV]
 | a::l=>by
  have ih:=zjm (n:=n) (l:=l)
  unfold inV at ih ⊢
  rw[zmc,List.any_cons,ih]
  by_cases z:n=a
  ·subst z;simp[eqV]
  ·have:eqV (.int a) (.int n)=false:=by
    simp[eqV]
    intro w;exact z w.symm
   rw[this]
   simp[z]
theorem zj9 (zs:List Int):(zs.map V.int).all zdg=true:=by rw[List.all_map,List.all_eq_true];intro x _;rfl
end My

namespace My
open PySem L2 PyProof.Rows
theorem zeros8e:List.replicate 8 (0:Int)=[0,0,0,0,0,0,0,0]:=rfl
section
variable {H H1 : Hp} {la t g u : Addr} {l : List Int}
end
theorem zak.out4 {H:Hp}{d1 d2 d3 d4:D}{v1 v2 v3 v4:V}{fp:List Addr}(h:zak H [d1,d2,d3,d4] [v1,v2,v3,v4] fp):∃ f1 f2 f3 f4,fp=f1++(f2++(f3++f4))∧RepF H d1 v1 f1∧RepF H d2 v2 f2∧RepF H d3 v3 f3∧RepF H d4 v4 f4:=by
 unfold zak at h
 obtain⟨_,_,f1,g1,e,rfl,h1,h⟩:=h
 cases e
 unfold zak at h
 obtain⟨_,_,f2,g2,e,rfl,h2,h⟩:=h
 cases e
 unfold zak at h
 obtain⟨_,_,f3,g3,e,rfl,h3,h⟩:=h
 cases e
 unfold zak at h
 obtain⟨_,_,f4,g4,e,rfl,h4,h⟩:=h
 cases e
 unfold zak at h
 obtain⟨_,rfl⟩:=h
 exact⟨f1,f2,f3,f4,by simp,h1,h2,h3,h4⟩
theorem zak.in4 {H:Hp}{d1 d2 d3 d4:D}{v1 v2 v3 v4:V}{f1 f2 f3 f4:List Addr}(h1:RepF H d1 v1 f1) (h2:RepF H d2 v2 f2) (h3:RepF H d3 v3 f3) (h4:RepF H d4 v4 f4):zak H [d1,d2,d3,d4] [v1,v2,v3,v4] (f1++(f2++(f3++f4))):=by
 have:=zak.cany h1 (zak.cany h2 (zak.cany h3 (zak.cany h4 (zak.nil (H:=H)))))
 simpa using this
def crD (c:Cr):D:=.lst [zaG c.needs,zaG c.leaves,.lst (c.deeds.map toD),.lst (c.notes.map zaG)]
end My

namespace My
open PySem L2 PyProof.Rows
def flds (v1 v2 v3 v4:V):List (Str × V):=putF "notes" v4 (putF "deeds" v3 (putF "leaves" v2 (putF "needs" v1 [])))
theorem zcA (v1 v2 v3 v4:V):(flds v1 v2 v3 v4).lookup ("needs" : Str)=some v1:=by
 unfold flds
 rw[zaN,if_neg (by decide +kernel),zaN,if_neg (by decide +kernel),zaN,if_neg (by decide +kernel),zaN,if_pos rfl]
theorem zcp (v1 v2 v3 v4:V):(flds v1 v2 v3 v4).lookup ("leaves" : Str)=some v2:=by
 unfold flds
 rw[zaN,if_neg (by decide +kernel),zaN,if_neg (by decide +kernel),zaN,if_pos rfl]
theorem zcg (v1 v2 v3 v4:V):(flds v1 v2 v3 v4).lookup ("deeds" : Str)=some v3:=by
 unfold flds
 rw[zaN,if_neg (by decide +kernel),zaN,if_pos rfl]
theorem zdE (v1 v2 v3 v4:V):(flds v1 v2 v3 v4).lookup ("notes" : Str)=some v4:=by
 unfold flds
 rw[zaN,if_pos rfl]
theorem zaU {f:Str}{v:V}{fs:List (Str × V)}{n:Nat}(h:fs.length<n):(putF f v fs).length<n+1:=Nat.lt_of_le_of_lt (zdV f v fs) (by omega)
def zlt (needs leaves:List (List Int)) (deeds:List D) (notes:List (List (List Int))):List D:=[zaG needs,zaG leaves,.lst deeds,.lst (notes.map zaG)]
def zbG (K:Fg) (cC:Addr) (H:Hp) (p:Addr) (needs leaves:List (List Int)) (deeds:List D) (notes:List (List (List Int))):Prop:=
 ∃ dx w1 w2 w3 w4,H p=some (.ins cC dx (flds w1 w2 w3 w4))∧Rep K H (zaG needs) w1∧Rep K H (zaG leaves) w2∧Rep K H (.lst deeds) w3∧Rep K H (.lst (notes.map zaG)) w4
theorem reps4 {K:Fg}{H:Hp}{d1 d2 d3 d4:D}{w1 w2 w3 w4:V}(h:Reps K H [d1,d2,d3,d4] [w1,w2,w3,w4]):Rep K H d1 w1∧Rep K H d2 w2∧Rep K H d3 w3∧Rep K H d4 w4:=by
 unfold Reps at h
 obtain⟨_,_,e,h1,h⟩:=h
 cases e
 unfold Reps at h
 obtain⟨_,_,e,h2,h⟩:=h
 cases e
 unfold Reps at h
 obtain⟨_,_,e,h3,h⟩:=h
 cases e
 unfold Reps at h
 obtain⟨_,_,e,h4,h⟩:=h
 cases e
 exact⟨h1,h2,h3,h4⟩
theorem zbG.same {K:Fg}{cC:Addr}{H H':Hp}{p:Addr}{needs leaves:List (List Int)}{deeds:List D}{notes:List (List (List Int))}(e:Same H H') (h:zbG K cC H p needs leaves deeds notes):zbG K cC H' p needs leaves deeds notes:=by
 obtain⟨dx,w1,w2,w3,w4,h0,h1,h2,h3,h4⟩:=h
 exact⟨dx,w1,w2,w3,w4,e _ _ h0,Rep.same e _ h1,Rep.same e _ h2,Rep.same e _ h3,Rep.same e _ h4⟩
def zeO (K:Fg) (cC:Addr) (H:Hp) (p:Addr) (needs leaves:List (List Int)) (deeds:List Dd) (notes:List (List (List Int))):Prop:=
 zbG K cC H p needs leaves (deeds.map toD) notes∧∃ dx w1 w2 b3 w4 dvs,H p=some (.ins cC dx (flds w1 w2 (.ref b3) w4))∧H b3=some (.lst dvs)∧zc4 H deeds dvs
theorem zeO.same {K:Fg}{cC:Addr}{H H':Hp}{p:Addr}{needs leaves:List (List Int)}{deeds:List Dd}{notes:List (List (List Int))}(e:Same H H') (h:zeO K cC H p needs leaves deeds notes):zeO K cC H' p needs leaves deeds notes:=by
 obtain⟨h0,dx,w1,w2,b3,w4,dvs,h1,h2,h3⟩:=h
 exact⟨h0.same e,dx,w1,w2,b3,w4,dvs,e _ _ h1,e _ _ h2,h3.same e⟩
theorem zbG.nod {K:Fg}{cC:Addr}{H H':Hp}{p:Addr}{needs leaves:List (List Int)}{deeds:List D}{notes:List (List (List Int))}(e:NoD H H') (h:zbG K cC H p needs leaves deeds notes):zbG K cC H' p needs leaves deeds notes:=by
 obtain⟨dx,w1,w2,w3,w4,h0,h1,h2,h3,h4⟩:=h
 exact⟨dx,w1,w2,w3,w4,e _ _ h0 (λ_ z=>by cases z),Rep.sq e.sq _ h1,Rep.sq e.sq _ h2,Rep.sq e.sq _ h3,Rep.sq e.sq _ h4⟩
end My

namespace My
open PySem L2 PyProof.Rows
theorem zb3 {n:Nat}(h:n≤1000):n<sizeLine:=Nat.lt_of_le_of_lt h (by decide)
structure Cr.Nine (c:Cr):Prop where
 n9:∀ l∈c.needs,l.length=9
 l9:∀ l∈c.leaves,l.length=9
 d9:∀ d∈c.deeds,zdp d
 o9:∀ ls∈c.notes,ls.length≤100∧∀ l∈ls,l.length=9
 n:c.needs.length≤100
 l:c.leaves.length≤100
 d:c.deeds.length≤100
 o:c.notes.length≤100
def Cr.right (c:Cr):Bool:=zbW c.needs c.leaves c.deeds c.notes
structure Cr.Rt (c:Cr):Prop where
 nine:c.Nine
 r:c.right=true
theorem Cr.Rt.parts {c:Cr}(h:c.Rt):c.needs.length≤2∧c.leaves.length≤2∧(1≤c.deeds.length∧c.deeds.length≤8)∧c.notes.length=c.deeds.length∧(∀ ls∈c.notes,ls.length≤2)∧∀ d∈c.deeds,zaY (c.deeds.length:Int) d=true:=by
 have r:zbW c.needs c.leaves c.deeds c.notes=true:=h.r
 simp only[zbW,zeN,zdr,zds,zco,btw,Bool.and_eq_true,decide_eq_true_eq,List.all_map,List.all_eq_true,Function.comp_apply,id_eq] at r
 obtain⟨⟨⟨a1,_⟩,a2,_⟩,⟨⟨b1,b2⟩,b3⟩,c1,c2⟩:=r
 exact⟨by omega,by omega,⟨by omega,by omega⟩,by omega,λls hl=>by have:=(c2 ls hl).1;omega,b3⟩
theorem zfw {spots:List Nat}{l:List Int}(h:zbB spots l=true):Sm l:=λn hn=>by
 simp only[zbB,zdq,btw,Bool.and_eq_true,decide_eq_true_eq,List.all_map,List.all_eq_true,Function.comp_apply,id_eq] at h
 have:=h.1 n hn
 constructor <;> omega
def zbe (cC:Addr) (H:Hp) (p:Addr) (c:Cr) (fp:List Addr):Prop:=∃ dx w1 w2 w3 w4 f,fp=p::f∧H p=some (.ins cC dx (flds w1 w2 w3 w4))∧zak H (zlt c.needs c.leaves (c.deeds.map toD) c.notes) [w1,w2,w3,w4] f
theorem zbe.at {K:Fg}{cC:Addr}{H:Hp}{p:Addr}{c:Cr}{fp:List Addr}(h:zbe cC H p c fp):zbG K cC H p c.needs c.leaves (c.deeds.map toD) c.notes:=by
 obtain⟨dx,w1,w2,w3,w4,f,rfl,hp,r⟩:=h
 obtain⟨h1,h2,h3,h4⟩:=reps4 (zak.reps (K:=K) _ r)
 exact⟨dx,w1,w2,w3,w4,hp,h1,h2,h3,h4⟩
theorem zbe.t {K:Fg}{cC:Addr}{H:Hp}{p:Addr}{c:Cr}{fp:List Addr}(h9:∀ d∈c.deeds,zdp d) (h:zbe cC H p c fp):zeO K cC H p c.needs c.leaves c.deeds c.notes:=by
 refine⟨h.at,?_⟩
 obtain⟨dx,w1,w2,w3,w4,f,rfl,hp,r⟩:=h
 obtain⟨x1,x2,x3,x4,f1,f2,f3,f4,e,g1,g2,g3,g4⟩:=zhx r
 cases e
 obtain⟨b3,dvs',r3,rfl,h3',z3⟩:=RepF.lso g3
 refine⟨dx,w1,w2,b3,w4,dvs',hp,h3',by simpa using z3.length,λi d x q1 q2=>?_⟩
 obtain⟨f,hf⟩:=zak.item z3 i (toD d) x (by rw[zgm,q1];rfl) q2
 exact zfq (zei (h9 d (zmg q1))) hf
theorem zbe.has {cC:Addr}{H:Hp}{p:Addr}{c:Cr}{fp:List Addr}(h:zbe cC H p c fp):∀ b∈fp,∃ o,H b=some o:=λb hb=>by
 obtain⟨dx,w1,w2,w3,w4,f,rfl,hp,r⟩:=h
 rcases List.mem_cons.mp hb with rfl | hb
 ·exact⟨_,hp⟩
 ·exact zak.has _ r b hb
theorem zbe.hasN {cC:Addr}{H:Hp}{p:Addr}{c:Cr}{fp:List Addr}(h:zbe cC H p c fp):∀ b∈fp,∃ o,H b=some o∧∀ kvs,o≠HO.dK kvs:=λb hb=>by
 obtain⟨dx,w1,w2,w3,w4,f,rfl,hp,r⟩:=h
 rcases List.mem_cons.mp hb with rfl | hb
 ·exact⟨_,hp,λ_ z=>by cases z⟩
 ·obtain⟨xs,e⟩:=zak.hasL _ r b hb
  exact⟨_,e,λ_ z=>by cases z⟩
theorem zbe.frame {cC:Addr}{H H':Hp}{p:Addr}{c:Cr}{fp:List Addr}(tk:Tups H H') (k:∀ b∈fp,∀ o,H b=some o→H' b=some o) (h:zbe cC H p c fp):zbe cC H' p c fp:=by
 obtain⟨dx,w1,w2,w3,w4,f,rfl,hp,r⟩:=h
 refine⟨dx,w1,w2,w3,w4,f,rfl,k p List.mem_cons_self _ hp,zak.frame tk _ (λb hb=>?_) r⟩
 obtain⟨o,ho⟩:=zak.has _ r b hb
 rw[ho]
 exact k b (List.mem_cons_of_mem _ hb) o ho
theorem zbe.same {cC:Addr}{H H':Hp}{p:Addr}{c:Cr}{fp:List Addr}(e:Same H H') (h:zbe cC H p c fp):zbe cC H' p c fp:=h.frame e.tups λb _ o ho=>e b o ho
theorem zbe.nod {cC:Addr}{H H':Hp}{p:Addr}{c:Cr}{fp:List Addr}(e:NoD H H') (h:zbe cC H p c fp):zbe cC H' p c fp:=by
 obtain⟨dx,w1,w2,w3,w4,f,rfl,hp,r⟩:=h
 exact⟨dx,w1,w2,w3,w4,f,rfl,e _ _ hp (λ_ z=>by cases z),zak.sq e.sq _ r⟩
def CrIn (cC:Addr) (H:Hp) (cr:Int→Cr) (fp:List Addr) (m:Int) (v:V):Prop:=∃ p f,v=.ref p∧zbe cC H p (cr m) f∧∀ b∈f,b∈fp
structure HAt (cH cC:Addr) (H:Hp) (h la va:Addr) (ks:List Int) (cr:Int→Cr) (vs:List Int) (fp:List Addr):Prop where
 ins:∃ dx,H h=some (.ins cH dx (hfl la va))
 laid:∃ kvs,H la=some (.dK kvs)∧KVs (CrIn cC H cr fp) kvs ks
 vou:∃ kvs,H va=some (.dK kvs)∧KVs (λ_ v=>v=.bl true) kvs vs
 ne:la≠va
 rt:∀ m∈ks,(cr m).Rt
 few:ks.length≤60
 sub:∀ m∈vs,m∈ks
 has:∀ b∈fp,∃ o,H b=some o∧∀ kvs,o≠HO.dK kvs
section
variable {cH cC : Addr} {H H' : Hp} {h la va : Addr} {ks vs : List Int} {cr : Int → Cr} {fp : List Addr}
theorem HAt.frame (A:HAt cH cC H h la va ks cr vs fp) (tk:Tups H H') (k:∀ b,b∈h::la::va::fp→∀ o,H b=some o→H' b=some o):HAt cH cC H' h la va ks cr vs fp where
 ins:=by obtain⟨dx,e⟩:=A.ins;exact⟨dx,k _ (by simp) _ e⟩
 laid:=by
  obtain⟨kvs,e,q⟩:=A.laid
  exact⟨kvs,k _ (by simp) _ e,q.mono λm v ⟨p,f,e1,e2,e3⟩=>⟨p,f,e1,e2.frame tk λb hb o ho=>k b (by simp[e3 b hb]) o ho,e3⟩⟩
 vou:=by obtain⟨kvs,e,q⟩:=A.vou;exact⟨kvs,k _ (by simp) _ e,q⟩
 ne:=A.ne
 rt:=A.rt
 few:=A.few
 sub:=A.sub
 has:=λb hb=>by obtain⟨o,e,n⟩:=A.has b hb;exact⟨o,k b (by simp[hb]) o e,n⟩
theorem HAt.same (A:HAt cH cC H h la va ks cr vs fp) (e:Same H H'):HAt cH cC H' h la va ks cr vs fp:=A.frame e.tups λb _ o ho=>e b o ho
theorem HAt.putV {kvs:List (Key × V)}{vs':List Int}(A:HAt cH cC H h la va ks cr vs fp) (q:KVs (λ_ v=>v=.bl true) kvs vs') (s:∀ m∈vs',m∈ks):HAt cH cC (upd H va (.dK kvs)) h la va ks cr vs' fp where
 ins:=by
  obtain⟨dx,z⟩:=A.ins
  obtain⟨kv0,hv,_⟩:=A.vou
  exact⟨dx,by rw[zaj (zlR z hv (by intro w;cases w))];exact z⟩
 laid:=by
  obtain⟨kv0,hv,_⟩:=A.vou
  obtain⟨kl,z,q⟩:=A.laid
  exact⟨kl,by rw[zaj A.ne];exact z,q.mono λm v ⟨p,f,e1,e2,e3⟩=>⟨p,f,e1,e2.nod (zgN hv),e3⟩⟩
 vou:=⟨kvs,zad,q⟩
 ne:=A.ne
 rt:=A.rt
 few:=A.few
 sub:=s
 has:=λb hb=>by
  obtain⟨kv0,hv,_⟩:=A.vou
  obtain⟨o,z,n⟩:=A.has b hb
  exact⟨o,zgN hv b o z n,n⟩
theorem HAt.nd (A:HAt cH cC H h la va ks cr vs fp):ks.Nodup:=by obtain⟨_,_,q⟩:=A.laid;exact q.2.1
end
theorem OffA.putDict {H:Hp}{S:List Addr}{H':Hp}(e:OffA S H H') {T:List Addr}(h:∀ b∈S,b∈T):OffA T H H':=λb o n z=>e b o (λw=>n (h b w)) z
theorem HAt.start {cH cC:Addr}{H:Hp}{h la va dx:Addr}{cr:Int→Cr}(h1:H h=some (.ins cH dx (hfl la va))) (h2:H la=some (.dK [])) (h3:H va=some (.dK [])) (ne:la≠va):HAt cH cC H h la va [] cr [] [] where
 ins:=⟨dx,h1⟩
 laid:=⟨[],h2,KVs.nil⟩
 vou:=⟨[],h3,KVs.nil⟩
 ne:=ne
 rt:=λm hm=>by cases hm
 few:=Nat.zero_le _
 sub:=λm hm=>by cases hm
 has:=λm hm=>by cases hm
theorem zlu {H H1:Hp}{ha dx:Addr}{u x:HO}(ha0:H ha=none) (dx0:H dx=none) (o1:OffA [ha] (upd (upd H dx u) ha x) H1):Same H H1:=λb o e=>o1 b o (by simp[zam e ha0]) (by rw[zaj (zam e ha0),zaj (zam e dx0)];exact e)
theorem HAt.congr {cH cC:Addr}{H:Hp}{h la va:Addr}{ks vs:List Int}{cr cr':Int→Cr}{fp:List Addr}(A:HAt cH cC H h la va ks cr vs fp) (e:∀ m∈ks,cr m=cr' m):HAt cH cC H h la va ks cr' vs fp where
 ins:=A.ins
 laid:=by
  obtain⟨kvs,h1,q⟩:=A.laid
  refine⟨kvs,h1,q.1,q.2.1,λm hm=>?_⟩
  obtain⟨v,e1,p,f,e2,e3,e4⟩:=q.2.2 m hm
  exact⟨v,e1,p,f,e2,by rw[←e m hm];exact e3,e4⟩
 vou:=A.vou
 ne:=A.ne
 rt:=λm hm=>by rw[←e m hm];exact A.rt m hm
 few:=A.few
 sub:=A.sub
 has:=A.has
def zd3 (ks:List Int) (cr:Int→Cr) (n:Int):List Int:=if n∈ks then zey (cr n).deeds else []
def setC (cr:Int→Cr) (n:Int) (c:Cr):Int→Cr:=λm=>if m=n then c else cr m
theorem zfx:∀ {a b:List (List Int)},zbF (a.map nums) (b.map nums)=decide (a=b)
 | [],[]=>by unfold List.map zbF;rfl
 | [],_::_=>by rw[zmc];unfold List.map zbF;simp
 | _::_,[]=>by rw[zmc];unfold List.map zbF;simp
 | m::ms,n::ns=>by
  rw[zmc,zmc]
  unfold zbF nums pyEq
  rw[zfx,zgn,Bool.eq_iff_iff]
  simp
theorem zgs {a b:List (List Int)} : pyEq (zaG a) (zaG b)=decide (a=b):=by
 unfold zaG pyEq
 exact zfx
end My

namespace My
open PySem L2 PyProof.Rows
theorem i_inI {K:Fg}{H:Hp}{Q:VK}{n:Int}{a:Addr}{l:List Int}(h:SqL K H a (l.map V.int)) (q:Q (.bl (decide (n∈l))) H):rIn K false (.int n) (.ref a) H Q:=i_in (.inl h) rfl (zj9 _) (by rw[zjm];exact q)
theorem ziG {l:List Int}{i:Nat}{m:Int}(nd:l.Nodup) (e:l[i]?=some m):m∉l.take i:=by
 obtain⟨hi,rfl⟩:=zge.mp e
 intro z
 rw[←List.take_append_drop i l,List.drop_eq_getElem_cons hi] at nd
 exact (List.nodup_append.mp nd).2.2 _ z _ List.mem_cons_self rfl
end My

namespace My
open PySem L2 PyProof.Rows
structure Fm where
 n:Int
 p:Int
 hands:List Int
 asked:List Int
def zbf (f:Fm):List Int:=f.hands++f.asked++f.hands.take 2
def zav (ls:List (List Int)) (ns:List Int):Option Nat:=ls.findIdx? λl=>decide (zaV l ns<0)
abbrev End:=Option (List V)
def brk (w:Str) (f:Fm) (i:Nat):List V:=[.str "broken",.str w,.int f.n,.int f.p,.int (i:Int)]
def zdP (c:Cr) (p:Int):Option Dd:=c.deeds[p.toNat]?
def zgO:Option Dd→Int × Int
 | some (.call _ _ _ t0 t1)=>(t0,t1)
 | _=>(0,1)
def zf1 (cr:Int→Cr) (g:Fm) (l0 l1:Int):Fm:={g with hands:=(g.hands.set (zgO (zdP (cr g.n) g.p)).1.toNat l0).set (zgO (zdP (cr g.n) g.p)).2.toNat l1,p:=g.p+1}
def ziH (f:Fm):List V:=[.str "done",.int (f.hands.getD 0 0),.int (f.hands.getD 1 0)]
def zch (cr:Int→Cr) (f:Fm):End:=(zav ((cr f.n).notes.getD f.p.toNat []) (zbf f)).map (brk "notes" f)
def come (cr:Int→Cr):Fm→List Fm→List Fm × End
 | f,[]=>if f.p=((cr f.n).deeds.length:Int) then (match zav (cr f.n).leaves (zbf f) with
   | some i=>([f],some (brk "leaves" f i))
   | none=>([],some (ziH f))) else ([f],zch cr f)
 | f,g::st=>if f.p=((cr f.n).deeds.length:Int) then (match zav (cr f.n).leaves (zbf f) with
   | some i=>(f::g::st,some (brk "leaves" f i))
   | none=>come cr (zf1 cr g (f.hands.getD 0 0) (f.hands.getD 1 0)) st) else (f::g::st,zch cr f)
structure Rs where
 st:List Fm
 ins:List Int
 k:Int
 en:End
def zca (cr:Int→Cr) (s:Rs) (f:Fm) (st:List Fm):Rs:={s with st:=(come cr f st).1,en:=(come cr f st).2}
def putR (cr:Int→Cr) (s:Rs) (f:Fm) (st:List Fm) (h x:Int):Rs:=zca cr s {f with hands:=f.hands.set h.toNat x,p:=f.p+1} st
def zcB (a0 a1:Int):List Int:=[0,0,0,0,a0,a1,0,0]
def zbq (n a0 a1:Int):Fm:=⟨n,0,[a0,a1,0,0],[a0,a1]⟩
def zcv (cr:Int→Cr) (ks:List Int) (s:Rs) (f:Fm) (st:List Fm):Dd→Rs
 | .set h l=>putR cr s f st h (zaV l (zbf f))
 | .part h l b=>putR cr s f st h (zaV l (zbf f) / b)
 | .draw h lo hi=>match s.ins with
  | []=>{s with en:=some [.str "dry"]}
  | x::r=>if lo≤x∧x≤hi then putR cr {s with ins:=r} f st h x else {s with ins:=r,en:=some [.str "stray"]}
 | .turn l q=>zca cr s {f with p:=if 0≤zaV l (zbf f) then q else f.p+1} st
 | .hold l=>match zav [l] (zbf f) with
  | some i=>{s with en:=some (brk "hold" f i)}
  | none=>zca cr s {f with p:=f.p+1} st
 | .call m g0 g1 _ _=>if m∉ks then {s with en:=some [.str "lost"]} else if 20≤(f::st).length then {s with en:=some [.str "deep"]} else
   match zav (cr m).needs (zcB (f.hands.getD g0.toNat 0) (f.hands.getD g1.toNat 0)) with
   | some i=>{s with en:=some (brk "needs" f i)}
   | none=>zca cr s (zbq m (f.hands.getD g0.toNat 0) (f.hands.getD g1.toNat 0)) (f::st)
def zci (cr:Int→Cr) (ks:List Int) (s:Rs):Rs:=match s.st with
 | []=>s
 | f::st=>match zdP (cr f.n) f.p with
  | none=>s
  | some d=>zcv cr ks {s with k:=s.k+1} f st d
def goR (cr:Int→Cr) (ks:List Int):Nat→Rs→Rs
 | 0,s=>s
 | n+1,s=>if s.en=none then goR cr ks n (zci cr ks s) else s
structure WfF (ks:List Int) (cr:Int→Cr) (f:Fm):Prop where
 m:f.n∈ks
 p0:0≤f.p
 pn:f.p≤((cr f.n).deeds.length:Int)
 h4:f.hands.length=4
 a2:f.asked.length=2
def zfy (cr:Int→Cr) (f:Fm):Prop:=∃ m g0 g1 t0 t1,zdP (cr f.n) f.p=some (.call m g0 g1 t0 t1)
def Wf (ks:List Int) (cr:Int→Cr) (st:List Fm):Prop:=(∀ f∈st,WfF ks cr f)∧∀ f∈st.tail,zfy cr f
theorem Wf.tail {ks:List Int}{cr:Int→Cr}{f:Fm}{st:List Fm}(h:Wf ks cr (f::st)):Wf ks cr st:=⟨λg hg=>h.1 g (List.mem_cons_of_mem _ hg),λg hg=>h.2 g (List.mem_of_mem_tail hg)⟩
theorem zfy.lt {cr:Int→Cr}{f:Fm}(h:zfy cr f):f.p.toNat<(cr f.n).deeds.length:=by
 obtain⟨m,g0,g1,t0,t1,e⟩:=h
 exact (zge.mp e).1
theorem zjn {ks:List Int}{cr:Int→Cr}{g:Fm}{l0 l1:Int}(h:WfF ks cr g) (c:zfy cr g):WfF ks cr (zf1 cr g l0 l1) where
 m:=h.m
 p0:=by have:=h.p0;show 0≤g.p+1;omega
 pn:=by have:=c.lt;have:=h.p0;show g.p+1≤((cr g.n).deeds.length:Int);omega
 h4:=by unfold zf1;simp[h.h4]
 a2:=h.a2
theorem ziI {ks:List Int}{cr:Int→Cr} : ∀ {f:Fm}{st:List Fm},Wf ks cr (f::st)→Wf ks cr (come cr f st).1∧((come cr f st).2=none→∃ g r,(come cr f st).1=g::r∧g.p<((cr g.n).deeds.length:Int))
 | f,[],h=>by
  unfold come
  split
  ·split
   ·exact⟨h,λz=>by cases z⟩
   ·exact⟨⟨λg hg=>(by cases hg),λg hg=>(by cases hg)⟩,λz=>(by cases z)⟩
  ·rename_i ne
   exact⟨h,λ_=>⟨f,[],rfl,by have:=(h.1 f List.mem_cons_self).pn;omega⟩⟩
 | f,g::st,h=>by
  unfold come
  split
  ·split
   ·exact⟨h,λz=>by cases z⟩
   ·refine ziI ⟨λk hk=>?_,λk hk=>h.tail.2 k hk⟩
    rcases List.mem_cons.mp hk with rfl | hk
    ·exact zjn (h.tail.1 g List.mem_cons_self) (h.2 g List.mem_cons_self)
    ·exact h.tail.1 k (List.mem_cons_of_mem _ hk)
  ·rename_i ne
   exact⟨h,λ_=>⟨f,g::st,rfl,by have:=(h.1 f List.mem_cons_self).pn;omega⟩⟩
structure WfR (ks:List Int) (cr:Int→Cr) (s:Rs):Prop where
 w:Wf ks cr s.st
 on:s.en=none→∃ f st,s.st=f::st∧f.p<((cr f.n).deeds.length:Int)
theorem zcC {ks:List Int}{cr:Int→Cr}{s:Rs}{f:Fm}{st:List Fm}(h:Wf ks cr (f::st)):WfR ks cr (zca cr s f st):=⟨(ziI h).1,(ziI h).2⟩
theorem Wf.top {ks:List Int}{cr:Int→Cr}{f g:Fm}{st:List Fm}(h:Wf ks cr (f::st)) (w:WfF ks cr g):Wf ks cr (g::st):=⟨λk hk=>by
 rcases List.mem_cons.mp hk with rfl | hk
 ·exact w
 ·exact h.1 k (List.mem_cons_of_mem _ hk),h.2⟩
theorem zdF {n:Int}{m g0 g1 t0 t1:Int}(h:zaY n (.call m g0 g1 t0 t1)=true):(0≤g0∧g0≤3)∧(0≤g1∧g1≤3)∧(0≤t0∧t0≤3)∧(0≤t1∧t1≤3)∧0≤m∧m≤99:=by
 simp only[zaY,zbp,btw,List.all_cons,List.all_nil,id,Bool.and_true,Bool.and_eq_true,decide_eq_true_eq] at h
 omega
theorem zjo {ks:List Int}{cr:Int→Cr}{s:Rs}(hrt:∀ m∈ks,(cr m).Rt) (h:WfR ks cr s) (he:s.en=none):WfR ks cr (zci cr ks s):=by
 obtain⟨f,st,e,hp⟩:=h.on he
 have hw:=h.w
 rw[e] at hw
 have wf:=hw.1 f List.mem_cons_self
 have hlt:f.p.toNat<(cr f.n).deeds.length:=by have:=wf.p0;omega
 have ok:=(hrt f.n wf.m).parts.2.2.2.2.2
 unfold zci
 rw[e]
 dsimp only
 unfold zdP
 rw[List.getElem?_eq_getElem hlt]
 dsimp only
 have hok:=ok _ (List.getElem_mem hlt)
 have hd:zdP (cr f.n) f.p=some (cr f.n).deeds[f.p.toNat]:=List.getElem?_eq_getElem hlt
 generalize (cr f.n).deeds[f.p.toNat]=d at *
 have up:∀ x,WfF ks cr {f with hands:=x,p:=f.p+1}↔x.length=4:=λx=>⟨λz=>z.h4,λz=>⟨wf.m,by have:=wf.p0;show 0≤f.p+1;omega,by show f.p+1≤((cr f.n).deeds.length:Int);omega,z,wf.a2⟩⟩
 have same:∀ (x:List Int) (y:Int) (z:List V),WfR ks cr ({st:=f::st,ins:=x,k:=y,en:=some z} : Rs):=λx y z=>⟨hw,λw=>by cases w⟩
 cases d with
 | set hd l=>exact zcC (hw.top ((up _).mpr (by simp[wf.h4])))
 | part hd l b=>exact zcC (hw.top ((up _).mpr (by simp[wf.h4])))
 | draw hd lo hi=>
  unfold zcv
  dsimp only
  split
  ·exact same _ _ _
  ·split
   ·exact zcC (hw.top ((up _).mpr (by simp[wf.h4])))
   ·exact same _ _ _
 | turn l q=>
  simp only[zaY,btw,Bool.and_eq_true,decide_eq_true_eq] at hok
  refine zcC (hw.top ⟨wf.m,?_,?_,wf.h4,wf.a2⟩)
  ·dsimp only;have:=wf.p0;split <;> omega
  ·dsimp only;split <;> omega
 | hold l=>
  unfold zcv
  dsimp only
  split
  ·exact same _ _ _
  ·exact zcC (hw.top ((up f.hands).mpr wf.h4))
 | call m g0 g1 t0 t1=>
  unfold zcv
  dsimp only
  split
  ·exact same _ _ _
  ·rename_i mk
   split
   ·exact same _ _ _
   ·split
    ·exact same _ _ _
    ·refine zcC ⟨λk hk=>?_,λk hk=>?_⟩
     ·rcases List.mem_cons.mp hk with rfl | hk
      ·exact⟨Classical.byContradiction λz=>mk z,by show (0:Int)≤0;omega,by show (0:Int)≤_;omega,rfl,rfl⟩
      ·exact hw.1 k hk
     ·rcases List.mem_cons.mp (show k∈f::st from hk) with rfl | hk
      ·exact⟨m,g0,g1,t0,t1,hd⟩
      ·exact hw.2 k hk
theorem zjp {ks:List Int}{cr:Int→Cr}(hrt:∀ m∈ks,(cr m).Rt):∀ (n:Nat) {s:Rs},WfR ks cr s→WfR ks cr (goR cr ks n s)
 | 0,s,h=>h
 | n+1,s,h=>by
  unfold goR
  split
  ·rename_i he;exact zjp hrt n (zjo hrt h he)
  ·exact h
theorem ziJ {ks:List Int}{cr:Int→Cr}{s:Rs}(h:s.en≠none):∀ n,goR cr ks n s=s
 | 0=>rfl
 | n+1=>by unfold goR;rw[if_neg h]
theorem ziK {ks:List Int}{cr:Int→Cr} : ∀ (a b:Nat) (s:Rs),goR cr ks (a+b) s=goR cr ks b (goR cr ks a s)
 | 0,b,s=>by rw[Nat.zero_add];rfl
 | a+1,b,s=>by
  rw[Nat.add_right_comm]
  have e1:goR cr ks (a+b+1) s=if s.en=none then goR cr ks (a+b) (zci cr ks s) else s:=rfl
  have e2:goR cr ks (a+1) s=if s.en=none then goR cr ks a (zci cr ks s) else s:=rfl
  rw[e1,e2]
  by_cases h:s.en=none
  ·rw[if_pos h,if_pos h];exact ziK a b _
  ·rw[if_neg h,if_neg h,ziJ h]
theorem zmD {ks:List Int}{cr:Int→Cr}(n:Nat) (s:Rs) (h:(goR cr ks n s).en=none):goR cr ks (n+1) s=zci cr ks (goR cr ks n s):=by
 rw[ziK n 1 s]
 show (if _ then _ else _)=_
 rw[if_pos h]
 rfl
end My

namespace My
open PySem L2 PyProof.Rows
theorem zcb {k x:Str}{v:V}{r:List (Str × V)}(h:(k == x)=false):List.lookup k ((x,v)::r)=List.lookup k r:=by simp[List.lookup,h]
theorem zgP {k:Str}{v:V}{r:List (Str × V)} : List.lookup k ((k,v)::r)=some v:=by simp[List.lookup]
theorem zf2 {k x:Str}{v w:V}{r:List (Str × V)}(h:¬ x=k):putF k v ((x,w)::r)=(x,w)::putF k v r:=by
 show (if x=k then _ else _)=_
 rw[if_neg h]
theorem zok {k:Str}{v w:V}{r:List (Str × V)} : putF k v ((k,w)::r)=(k,v)::r:=by
 show (if k=k then _ else _)=_
 rw[if_pos rfl]
theorem znp {k:Str}{v:V} : putF k v []=[(k,v)]:=rfl
def ffl (n p:Int) (ha aa:Addr):List (Str × V):=[("number",.int n),("place",.int p),("hands",.ref ha),("asked",.ref aa)]
theorem zfz (n p:Int) (ha aa:Addr):(ffl n p ha aa).lookup ("number" : Str)=some (.int n):=zgP
theorem zb1 (n p:Int) (ha aa:Addr):(ffl n p ha aa).lookup ("place" : Str)=some (.int p):=by
 unfold ffl;rw[zcb (by decide +kernel)];exact zgP
theorem zbR (n p:Int) (ha aa:Addr):(ffl n p ha aa).lookup ("hands" : Str)=some (.ref ha):=by
 unfold ffl;rw[zcb (by decide +kernel),zcb (by decide +kernel)];exact zgP
theorem zmE (n p:Int) (ha aa:Addr):(ffl n p ha aa).lookup ("asked" : Str)=some (.ref aa):=by
 unfold ffl;rw[zcb (by decide +kernel),zcb (by decide +kernel),zcb (by decide +kernel)];exact zgP
theorem zka {n p:Int}{ha aa:Addr}{m:Str}(h:(m =="number" || (m =="place" || (m =="hands" || m =="asked")))=false):(ffl n p ha aa).lookup m=none:=by
 simp only[Bool.or_eq_false_iff] at h
 obtain⟨h1,h2,h3,h4⟩:=h
 unfold ffl;rw[zcb h1,zcb h2,zcb h3,zcb h4];rfl
theorem znq {n p q:Int}{ha aa:Addr} : putF "place" (.int q) (ffl n p ha aa)=ffl n q ha aa:=by
 unfold ffl;rw[zf2 (by decide +kernel),zok]
theorem zol {n p:Int}{ha aa:Addr} : putF "asked" (.ref aa) (putF "hands" (.ref ha) (putF "place" (.int p) (putF "number" (.int n) [])))=ffl n p ha aa:=by
 repeat (first | rw[znp] | rw[zf2 (by decide +kernel)])
 rfl
def rfls (ka ia sa:Addr) (k:Int) (ev:V):List (Str × V):=[("known",.ref ka),("inputs_left",.ref ia),("stack",.ref sa),("steps_done",.int k),("ending",ev)]
section
variable {ka ia sa : Addr} {k j : Int} {ev ew : V}
theorem zej:(rfls ka ia sa k ev).lookup ("known" : Str)=some (.ref ka):=zgP
theorem zhJ:(rfls ka ia sa k ev).lookup ("inputs_left" : Str)=some (.ref ia):=by
 unfold rfls;rw[zcb (by decide +kernel)];exact zgP
theorem zbo:(rfls ka ia sa k ev).lookup ("stack" : Str)=some (.ref sa):=by
 unfold rfls;rw[zcb (by decide +kernel),zcb (by decide +kernel)];exact zgP
theorem zjq:(rfls ka ia sa k ev).lookup ("steps_done" : Str)=some (.int k):=by
 unfold rfls;rw[zcb (by decide +kernel),zcb (by decide +kernel),zcb (by decide +kernel)];exact zgP
theorem zdu:(rfls ka ia sa k ev).lookup ("ending" : Str)=some ev:=by
 unfold rfls;rw[zcb (by decide +kernel),zcb (by decide +kernel),zcb (by decide +kernel),zcb (by decide +kernel)];exact zgP
theorem zbH {m:Str}(h:(m =="known" || (m =="inputs_left" || (m =="stack" || (m =="steps_done" || m =="ending"))))=false):(rfls ka ia sa k ev).lookup m=none:=by
 simp only[Bool.or_eq_false_iff] at h
 obtain⟨h1,h2,h3,h4,h5⟩:=h
 unfold rfls;rw[zcb h1,zcb h2,zcb h3,zcb h4,zcb h5];rfl
theorem zmF:putF "steps_done" (.int j) (rfls ka ia sa k ev)=rfls ka ia sa j ev:=by
 unfold rfls;rw[zf2 (by decide +kernel),zf2 (by decide +kernel),zf2 (by decide +kernel),zok]
theorem zcq:putF "ending" ew (rfls ka ia sa k ev)=rfls ka ia sa k ew:=by
 unfold rfls;rw[zf2 (by decide +kernel),zf2 (by decide +kernel),zf2 (by decide +kernel),zf2 (by decide +kernel),zok]
theorem zom:putF "ending" ev (putF "steps_done" (.int k) (putF "stack" (.ref sa) (putF "inputs_left" (.ref ia) (putF "known" (.ref ka) []))))=rfls ka ia sa k ev:=by
 repeat (first | rw[znp] | rw[zf2 (by decide +kernel)])
 rfl
end
def zdK (H:Hp):End→V→Prop
 | none,v=>v=.non
 | some xs,v=>∃ T,v=.ref T∧H T=some (.tup xs)
theorem zdK.tups {H H':Hp}{en:End}{v:V}(t:Tups H H') (h:zdK H en v):zdK H' en v:=by
 cases en with
 | none=>exact h
 | some xs=>obtain⟨T,e,z⟩:=h;exact⟨T,e,t _ _ z⟩
theorem zdK.none_iff {H:Hp}{en:End}{v:V}(h:zdK H en v):decide (v=V.non)=en.isNone:=by
 cases en with
 | none=>rw[show v=.non from h];rfl
 | some xs=>obtain⟨T,e,z⟩:=h;rw[e,zob];rfl
structure KnownAt (cC:Addr) (H:Hp) (ka:Addr) (ks:List Int) (cr:Int→Cr) (kfp:List Addr):Prop where
 d:∃ kvs,H ka=some (.dK kvs)∧KVs (CrIn cC H cr kfp) kvs ks
 rt:∀ m∈ks,(cr m).Rt
 has:∀ b∈kfp,∃ o,H b=some o
section
variable {cC : Addr} {H H' : Hp} {ka : Addr} {ks : List Int} {cr : Int → Cr} {kfp : List Addr}
theorem KnownAt.frame (A:KnownAt cC H ka ks cr kfp) (tk:Tups H H') (k:∀ b∈kfp,∀ o,H b=some o→H' b=some o) (k2:∀ kvs,H ka=some (.dK kvs)→H' ka=some (.dK kvs)):KnownAt cC H' ka ks cr kfp where
 d:=by
  obtain⟨kvs,e,q⟩:=A.d
  exact⟨kvs,k2 _ e,q.mono λm v ⟨p,f,e1,e2,e3⟩=>⟨p,f,e1,e2.frame tk λb hb o ho=>k b (e3 b hb) o ho,e3⟩⟩
 rt:=A.rt
 has:=λb hb=>by obtain⟨o,e⟩:=A.has b hb;exact⟨o,k b hb o e⟩
theorem KnownAt.upd {b:Addr}{o u:HO}(A:KnownAt cC H ka ks cr kfp) (hb:b∉kfp) (h:H b=some u) (n1:∀ xs,u≠.tup xs) (n2:∀ kvs,u≠.dK kvs):KnownAt cC (L2.upd H b o) ka ks cr kfp:=
 A.frame (ze4 λxs z=>n1 xs (by rw[h] at z;exact Option.some.inj z)) (λc hc o' ho=>by rw[zaj (λz=>hb (by rw[←z];exact hc))];exact ho) λkvs z=>by rw[zaj (zlR z h (λw=>n2 kvs w.symm))];exact z
end
abbrev Fa:=Addr × Addr × Addr
def zcr (cF:Addr) (H:Hp):List Fm→List Fa→Prop
 | [],[]=>True
 | f::st,(p,ha,aa)::r=>(∃ dx,H p=some (.ins cF dx (ffl f.n f.p ha aa)))∧H ha=some (.lst (f.hands.map V.int))∧H aa=some (.lst (f.asked.map V.int))∧zcr cF H st r
 | _,_=>False
def fasL (fas:List Fa):List Addr:=fas.flatMap λt=>[t.1,t.2.1,t.2.2]
theorem zaz (t:Fa) (fas:List Fa):fasL (t::fas)=t.1::t.2.1::t.2.2::fasL fas:=by unfold fasL;simp
theorem zcr.frame {cF:Addr}{H H':Hp} : ∀ {st:List Fm}{fas:List Fa},(∀ b∈fasL fas,∀ o,H b=some o→H' b=some o)→zcr cF H st fas→zcr cF H' st fas
 | [],[],_,_=>trivial
 | f::st,(p,ha,aa)::r,k,h=>by
  obtain⟨⟨dx,h1⟩,h2,h3,h4⟩:=h
  rw[zaz] at k
  exact⟨⟨dx,k _ (by simp) _ h1⟩,k _ (by simp) _ h2,k _ (by simp) _ h3,zcr.frame (λb hb=>k b (by simp[hb])) h4⟩
 | [],_::_,_,h=>h.elim
 | _::_,[],_,h=>h.elim
theorem zcr.len {cF:Addr}{H:Hp} : ∀ {st:List Fm}{fas:List Fa},zcr cF H st fas→st.length=fas.length
 | [],[],_=>rfl
 | f::st,t::r,h=>by rw[List.length_cons,List.length_cons,zcr.len h.2.2.2]
 | [],_::_,h=>h.elim
 | _::_,[],h=>h.elim
theorem zcr.has {cF:Addr}{H:Hp} : ∀ {st:List Fm}{fas:List Fa},zcr cF H st fas→∀ b∈fasL fas,∃ o,H b=some o∧(∀ xs,o≠.tup xs)∧∀ kvs,o≠.dK kvs
 | [],[],_,b,hb=>by simp[fasL] at hb
 | f::st,(p,ha,aa)::r,h,b,hb=>by
  obtain⟨⟨dx,h1⟩,h2,h3,h4⟩:=h
  rw[zaz] at hb
  simp only[List.mem_cons] at hb
  rcases hb with rfl | rfl | rfl | hb
  ·exact⟨_,h1,λ_ z=>(by cases z),λ_ z=>(by cases z)⟩
  ·exact⟨_,h2,λ_ z=>(by cases z),λ_ z=>(by cases z)⟩
  ·exact⟨_,h3,λ_ z=>(by cases z),λ_ z=>(by cases z)⟩
  ·exact zcr.has h4 b hb
 | [],_::_,h,_,_=>h.elim
 | _::_,[],h,_,_=>h.elim
def zas (r ia sa:Addr) (fas:List Fa):List Addr:=r::ia::sa::fasL fas
structure RunX (cR cF cC:Addr) (H:Hp) (r ka ia sa:Addr) (ks:List Int) (cr:Int→Cr) (fas:List Fa) (s:Rs) (kfp:List Addr):Prop where
 ins:∃ dx ev,H r=some (.ins cR dx (rfls ka ia sa s.k ev))∧zdK H s.en ev
 kn:KnownAt cC H ka ks cr kfp
 inp:H ia=some (.lst (s.ins.map V.int))
 sta:H sa=some (.lst (fas.reverse.map λt=>V.ref t.1))
 fr:zcr cF H s.st fas
 nd:(zas r ia sa fas).Nodup
 off:∀ b∈zas r ia sa fas,b∉kfp
section
variable {cR cF cC : Addr} {H H' : Hp} {r ka ia sa : Addr} {ks : List Int} {cr : Int → Cr} {fas : List Fa} {s : Rs} {kfp : List Addr}
theorem RunX.has (A:RunX cR cF cC H r ka ia sa ks cr fas s kfp):∀ b∈zas r ia sa fas,∃ o,H b=some o∧(∀ xs,o≠.tup xs)∧∀ kvs,o≠.dK kvs:=λb hb=>by
 unfold zas at hb
 simp only[List.mem_cons] at hb
 rcases hb with rfl | rfl | rfl | hb
 ·obtain⟨dx,ev,e,_⟩:=A.ins;exact⟨_,e,λ_ z=>(by cases z),λ_ z=>(by cases z)⟩
 ·exact⟨_,A.inp,λ_ z=>(by cases z),λ_ z=>(by cases z)⟩
 ·exact⟨_,A.sta,λ_ z=>(by cases z),λ_ z=>(by cases z)⟩
 ·exact A.fr.has b hb
theorem RunX.frame (A:RunX cR cF cC H r ka ia sa ks cr fas s kfp) (tk:Tups H H') (k:∀ b,b∈zas r ia sa fas∨b∈kfp→∀ o,H b=some o→H' b=some o) (k2:∀ kvs,H ka=some (.dK kvs)→H' ka=some (.dK kvs)):RunX cR cF cC H' r ka ia sa ks cr fas s kfp where
 ins:=by obtain⟨dx,ev,e,z⟩:=A.ins;exact⟨dx,ev,k _ (.inl (by simp[zas])) _ e,z.tups tk⟩
 kn:=A.kn.frame tk (λb hb=>k b (.inr hb)) k2
 inp:=k _ (.inl (by simp[zas])) _ A.inp
 sta:=k _ (.inl (by simp[zas])) _ A.sta
 fr:=A.fr.frame λb hb=>k b (.inl (by simp[zas,hb]))
 nd:=A.nd
 off:=A.off
theorem RunX.same (A:RunX cR cF cC H r ka ia sa ks cr fas s kfp) (e:Same H H'):RunX cR cF cC H' r ka ia sa ks cr fas s kfp:=A.frame e.tups (λb _ o ho=>e b o ho) λkvs z=>e _ _ z
theorem RunX.ndr (A:RunX cR cF cC H r ka ia sa ks cr fas s kfp):r≠ia∧r≠sa∧r∉fasL fas∧ia≠sa∧ia∉fasL fas∧sa∉fasL fas∧(fasL fas).Nodup:=by
 have h:=A.nd
 unfold zas at h
 simp only[List.nodup_cons,List.mem_cons,not_or] at h
 obtain⟨⟨a1,a2,a3⟩,⟨b1,b2⟩,c1,d1⟩:=h
 exact⟨a1,a2,a3,b1,b2,c1,d1⟩
theorem RunX.setR {dx:Addr}{k':Int}{ev ew:V}{en':End}(A:RunX cR cF cC H r ka ia sa ks cr fas s kfp) (h:H r=some (.ins cR dx (rfls ka ia sa s.k ev))) (he:zdK H en' ew):RunX cR cF cC (upd H r (.ins cR dx (rfls ka ia sa k' ew))) r ka ia sa ks cr fas {s with k:=k',en:=en'} kfp where
 ins:=⟨dx,ew,zad,he.tups (ze4 λxs z=>by rw[h] at z;cases z)⟩
 kn:=A.kn.upd (A.off r (by simp[zas])) h (λ_ z=>by cases z) (λ_ z=>by cases z)
 inp:=by rw[zaj A.ndr.1.symm];exact A.inp
 sta:=by rw[zaj A.ndr.2.1.symm];exact A.sta
 fr:=A.fr.frame λb hb o ho=>by rw[zaj (λz=>A.ndr.2.2.1 (by rw[←z];exact hb))];exact ho
 nd:=A.nd
 off:=A.off
theorem RunX.setIn {xs:List Int}(A:RunX cR cF cC H r ka ia sa ks cr fas s kfp):RunX cR cF cC (upd H ia (.lst (xs.map V.int))) r ka ia sa ks cr fas {s with ins:=xs} kfp where
 ins:=by obtain⟨dx,ev,e,z⟩:=A.ins;exact⟨dx,ev,by rw[zaj A.ndr.1];exact e,z.tups (zbC A.inp)⟩
 kn:=A.kn.upd (A.off ia (by simp[zas])) A.inp (λ_ z=>by cases z) (λ_ z=>by cases z)
 inp:=zad
 sta:=by rw[zaj A.ndr.2.2.2.1.symm];exact A.sta
 fr:=A.fr.frame λb hb o ho=>by rw[zaj (λz=>A.ndr.2.2.2.2.1 (by rw[←z];exact hb))];exact ho
 nd:=A.nd
 off:=A.off
variable {p ha aa : Addr} {f : Fm} {st : List Fm}
theorem zjr {t:Fa}{fas:List Fa}(h:(fasL (t::fas)).Nodup):t.1≠t.2.1∧t.1≠t.2.2∧t.1∉fasL fas∧t.2.1≠t.2.2∧t.2.1∉fasL fas∧t.2.2∉fasL fas:=by
 rw[zaz] at h
 simp only[List.nodup_cons,List.mem_cons,not_or] at h
 obtain⟨⟨a1,a2,a3⟩,⟨b1,b2⟩,c1,d1⟩:=h
 exact⟨a1,a2,a3,b1,b2,c1⟩
theorem RunX.setP {dx:Addr}{q:Int}(A:RunX cR cF cC H r ka ia sa ks cr ((p,ha,aa)::fas) s kfp) (hs:s.st=f::st) (h:H p=some (.ins cF dx (ffl f.n f.p ha aa))):RunX cR cF cC (upd H p (.ins cF dx (ffl f.n q ha aa))) r ka ia sa ks cr ((p,ha,aa)::fas) {s with st:={f with p:=q}::st} kfp:=by
 obtain⟨r1,r2,r3,i1,i2,s1,fn⟩:=A.ndr
 obtain⟨n1,n2,n3,n4,n5,n6⟩:=zjr fn
 rw[zaz] at r3 i2 s1
 simp only[List.mem_cons,not_or] at r3 i2 s1
 have fr:=A.fr
 rw[hs] at fr
 obtain⟨⟨dx',f1⟩,f2,f3,f4⟩:=fr
 have nt:Tups H (upd H p (.ins cF dx (ffl f.n q ha aa))):=ze4 λxs z=>by rw[h] at z;cases z
 refine⟨?_,A.kn.upd (A.off p (by simp[zas,zaz])) h (λ_ z=>by cases z) (λ_ z=>by cases z),?_,?_,⟨⟨dx,zad⟩,?_,?_,f4.frame λb hb o ho=>?_⟩,A.nd,A.off⟩
 ·obtain⟨dx',ev,e,z⟩:=A.ins;exact⟨dx',ev,by rw[zaj r3.1];exact e,z.tups nt⟩
 ·rw[zaj i2.1];exact A.inp
 ·rw[zaj s1.1];exact A.sta
 ·rw[zaj (Ne.symm n1)];exact f2
 ·rw[zaj (Ne.symm n2)];exact f3
 ·rw[zaj (λz=>n3 (by rw[←z];exact hb))];exact ho
theorem RunX.setH {xs:List Int}(A:RunX cR cF cC H r ka ia sa ks cr ((p,ha,aa)::fas) s kfp) (hs:s.st=f::st):RunX cR cF cC (upd H ha (.lst (xs.map V.int))) r ka ia sa ks cr ((p,ha,aa)::fas) {s with st:={f with hands:=xs}::st} kfp:=by
 obtain⟨r1,r2,r3,i1,i2,s1,fn⟩:=A.ndr
 obtain⟨n1,n2,n3,n4,n5,n6⟩:=zjr fn
 rw[zaz] at r3 i2 s1
 simp only[List.mem_cons,not_or] at r3 i2 s1
 have fr:=A.fr
 rw[hs] at fr
 obtain⟨⟨dx',f1⟩,f2,f3,f4⟩:=fr
 have nt:Tups H (upd H ha (.lst (xs.map V.int))):=zbC f2
 refine⟨?_,A.kn.upd (A.off ha (by simp[zas,zaz])) f2 (λ_ z=>by cases z) (λ_ z=>by cases z),?_,?_,⟨⟨dx',?_⟩,zad,?_,f4.frame λb hb o ho=>?_⟩,A.nd,A.off⟩
 ·obtain⟨dx',ev,e,z⟩:=A.ins;exact⟨dx',ev,by rw[zaj r3.2.1];exact e,z.tups nt⟩
 ·rw[zaj i2.2.1];exact A.inp
 ·rw[zaj s1.2.1];exact A.sta
 ·rw[zaj n1];exact f1
 ·rw[zaj (Ne.symm n4)];exact f3
 ·rw[zaj (λz=>n5 (by rw[←z];exact hb))];exact ho
theorem RunX.pop {t:Fa}(A:RunX cR cF cC H r ka ia sa ks cr (t::fas) s kfp) (hs:s.st=f::st):RunX cR cF cC (upd H sa (.lst (fas.reverse.map λt=>V.ref t.1))) r ka ia sa ks cr fas {s with st:=st} kfp:=by
 obtain⟨r1,r2,r3,i1,i2,s1,fn⟩:=A.ndr
 have fr:=A.fr
 rw[hs] at fr
 obtain⟨p,ha,aa⟩:=t
 obtain⟨⟨dx',f1⟩,f2,f3,f4⟩:=fr
 rw[zaz] at r3 i2 s1 fn
 simp only[List.mem_cons,not_or] at r3 i2 s1
 refine⟨?_,A.kn.upd (A.off sa (by simp[zas])) A.sta (λ_ z=>by cases z) (λ_ z=>by cases z),?_,zad,f4.frame λb hb o ho=>?_,?_,λb hb=>A.off b ?_⟩
 ·obtain⟨dx',ev,e,z⟩:=A.ins;exact⟨dx',ev,by rw[zaj r2];exact e,z.tups (zbC A.sta)⟩
 ·rw[zaj i1];exact A.inp
 ·rw[zaj (λz=>s1.2.2.2 (by rw[←z];exact hb))];exact ho
 ·have:=A.nd
  unfold zas at this ⊢
  rw[zaz] at this
  simp only[List.nodup_cons,List.mem_cons,not_or] at this ⊢
  exact⟨⟨this.1.1,this.1.2.1,this.1.2.2.2.2.2⟩,⟨this.2.1.1,this.2.1.2.2.2.2⟩,this.2.2.1.2.2.2,this.2.2.2.2.2.2⟩
 ·unfold zas at hb ⊢
  rw[zaz]
  simp only[List.mem_cons] at hb ⊢
  rcases hb with z | z | z | z
  ·exact .inl z
  ·exact .inr (.inl z)
  ·exact .inr (.inr (.inl z))
  ·exact .inr (.inr (.inr (.inr (.inr (.inr z)))))
theorem RunX.push {dx:Addr}(A:RunX cR cF cC H r ka ia sa ks cr fas s kfp) (e:Same H H') (p0:H p=none) (h0:H ha=none) (a0:H aa=none) (n1:p≠ha) (n2:p≠aa) (n3:ha≠aa) (hk:∀ b∈kfp,∃ o,H b=some o) (h1:H' p=some (.ins cF dx (ffl f.n f.p ha aa))) (h2:H' ha=some (.lst (f.hands.map V.int))) (h3:H' aa=some (.lst (f.asked.map V.int))) :
  RunX cR cF cC (upd H' sa (.lst ((fas.reverse.map λt=>V.ref t.1)++[.ref p]))) r ka ia sa ks cr ((p,ha,aa)::fas) {s with st:=f::s.st} kfp:=by
 have A':=A.same e
 obtain⟨r1,r2,r3,i1,i2,s1,fn⟩:=A.ndr
 have ow:∀ b∈zas r ia sa fas,b≠p∧b≠ha∧b≠aa:=λb hb=>by
  obtain⟨o,ho,_⟩:=A.has b hb
  exact⟨zam ho p0,zam ho h0,zam ho a0⟩
 have os:=ow sa (by simp[zas])
 refine⟨?_,A'.kn.upd (A.off sa (by simp[zas])) A'.sta (λ_ z=>by cases z) (λ_ z=>by cases z),?_,by rw[zad];simp,⟨⟨dx,?_⟩,?_,?_,A'.fr.frame λb hb o ho=>?_⟩,?_,λb hb=>?_⟩
 ·obtain⟨dx',ev,e,z⟩:=A'.ins;exact⟨dx',ev,by rw[zaj r2];exact e,z.tups (zbC A'.sta)⟩
 ·rw[zaj i1];exact A'.inp
 ·rw[zaj os.1.symm];exact h1
 ·rw[zaj os.2.1.symm];exact h2
 ·rw[zaj os.2.2.symm];exact h3
 ·rw[zaj (λz=>s1 (by rw[←z];exact hb))];exact ho
 ·have nd:=A.nd
  have o1:=ow r (by simp[zas])
  have o2:=ow ia (by simp[zas])
  have of':∀ b∈fasL fas,b≠p∧b≠ha∧b≠aa:=λb hb=>ow b (by simp[zas,hb])
  unfold zas at nd ⊢
  rw[zaz]
  simp only[List.nodup_cons,List.mem_cons,not_or] at nd ⊢
  exact⟨⟨nd.1.1,nd.1.2.1,o1.1,o1.2.1,o1.2.2,nd.1.2.2⟩,⟨nd.2.1.1,o2.1,o2.2.1,o2.2.2,nd.2.1.2⟩,⟨os.1,os.2.1,os.2.2,nd.2.2.1⟩,⟨n1,n2,λz=>(of' p z).1 rfl⟩,⟨n3,λz=>(of' ha z).2.1 rfl⟩,λz=>(of' aa z).2.2 rfl,nd.2.2.2⟩
 ·have kn:∀ b∈kfp,b≠p∧b≠ha∧b≠aa:=λb hb=>by
   obtain⟨o,ho⟩:=hk b hb
   exact⟨zam ho p0,zam ho h0,zam ho a0⟩
  unfold zas at hb
  rw[zaz] at hb
  simp only[List.mem_cons] at hb
  rcases hb with rfl | rfl | rfl | rfl | rfl | rfl | hb
  ·exact A.off b (by simp[zas])
  ·exact A.off b (by simp[zas])
  ·exact A.off b (by simp[zas])
  ·exact λz=>(kn _ z).1 rfl
  ·exact λz=>(kn _ z).2.1 rfl
  ·exact λz=>(kn _ z).2.2 rfl
  ·exact A.off b (by simp[zas,hb])
end
theorem zon {α:Type}{xs:List α}{v:α} : atI (xs++[v]) (-1)=some v:=by
 unfold atI ixN
 rw[if_neg (by omega),if_pos (by simp;omega),show ((-1:Int)+((xs++[v]).length:Nat)).toNat=xs.length by simp;omega]
 simp
theorem zcD {t:Fa}{fas:List Fa} : atI ((t::fas).reverse.map λt=>V.ref t.1) (-1)=some (.ref t.1):=by
 rw[List.reverse_cons,List.map_append]
 exact zon
theorem zjs {c:Int}{fs ns:List Int}(h:Sm (c::fs)):∀ (i:Nat) (f n:Int),fs[i]?=some f→ns[i]?=some n→CMul f n:=λi f n e _=>.inl (h f (List.mem_cons_of_mem _ (zmg e)))
theorem zcT {ks:List Int}{cr:Int→Cr}{f:Fm}(h:WfF ks cr f):(zbf f).length=8:=by
 unfold zbf
 simp[h.h4,h.a2]
theorem KnownAt.craft {cC:Addr}{H:Hp}{ka:Addr}{ks:List Int}{cr:Int→Cr}{kfp:List Addr}(A:KnownAt cC H ka ks cr kfp) {m:Int}(hm:m∈ks):∃ kvs p f,H ka=some (.dK kvs)∧valV kvs (.inl m)=some (.ref p)∧zbe cC H p (cr m) f:=by
 obtain⟨kvs,e,q⟩:=A.d
 obtain⟨v,e1,p,f,rfl,e3,_⟩:=q.2.2 m hm
 exact⟨kvs,p,f,e,e1,e3⟩
theorem KnownAt.no {cC:Addr}{H:Hp}{ka:Addr}{ks:List Int}{cr:Int→Cr}{kfp:List Addr}(A:KnownAt cC H ka ks cr kfp) {m:Int}(hm:m∉ks):∃ kvs,H ka=some (.dK kvs)∧valV kvs (.inl m)=none:=by
 obtain⟨kvs,e,q⟩:=A.d
 exact⟨kvs,e,q.no hm⟩
def zbI (K:Fg) (H:Hp) (a:Addr) (ls:List (List Int)):Prop:=∃ xs,H a=some (.lst xs)∧Reps K H (ls.map nums) xs
theorem zbI.same {K:Fg}{H H':Hp}{a:Addr}{ls:List (List Int)}(e:Same H H') (h:zbI K H a ls):zbI K H' a ls:=by
 obtain⟨xs,h1,h2⟩:=h
 exact⟨xs,e _ _ h1,Reps.same e _ h2⟩
theorem zdG {K:Fg}{H:Hp}{ls:List (List Int)}{v:V}{f:List Addr}(h:RepF H (zaG ls) v f):∃ a,v=.ref a∧zbI K H a ls:=by
 unfold zaG RepF at h
 obtain⟨a,xs,r,rfl,rfl,h1,h2⟩:=h
 exact⟨a,rfl,xs,h1,zak.reps (K:=K) _ h2⟩
theorem zbe.out {K:Fg}{cC:Addr}{H:Hp}{p:Addr}{c:Cr}{fp:List Addr}(h9:∀ d∈c.deeds,zdp d) (h:zbe cC H p c fp):∃ dx y1 y2 b3 b4 dvs nvs,H p=some (.ins cC dx (flds (.ref y1) (.ref y2) (.ref b3) (.ref b4)))∧zbI K H y1 c.needs∧zbI K H y2 c.leaves∧H b3=some (.lst dvs)∧zc4 H c.deeds dvs∧H b4=some (.lst nvs)∧R2 (λls x=>∃ a,x=.ref a∧zbI K H a ls) c.notes nvs:=by
 obtain⟨dx,w1,w2,w3,w4,f,rfl,hp,r⟩:=h
 obtain⟨x1,x2,x3,x4,f1,f2,f3,f4,e,g1,g2,g3,g4⟩:=zhx r
 cases e
 obtain⟨y1,rfl,hy1⟩:=zdG (K:=K) g1
 obtain⟨y2,rfl,hy2⟩:=zdG (K:=K) g2
 obtain⟨b3,dvs,r3,rfl,h3,z3⟩:=RepF.lso g3
 obtain⟨b4,nvs,r4,rfl,h4,z4⟩:=RepF.lso g4
 refine⟨dx,y1,y2,b3,b4,dvs,nvs,hp,hy1,hy2,h3,⟨by simpa using z3.length,λi d x e1 e2=>?_⟩,h4,⟨by simpa using z4.length,λi ls x e1 e2=>?_⟩⟩
 ·obtain⟨f,hf⟩:=zak.item z3 i (toD d) x (by rw[zgm,e1];rfl) e2
  exact zfq (zei (h9 d (zmg e1))) hf
 ·obtain⟨f,hf⟩:=zak.item z4 i (zaG ls) x (by rw[zgm,e1];rfl) e2
  exact zdG hf
theorem Cr.Rt.sm {c:Cr}(h:c.Rt):(∀ l∈c.needs,l.length=9∧Sm l)∧(∀ l∈c.leaves,l.length=9∧Sm l)∧(∀ ls∈c.notes,∀ l∈ls,l.length=9∧Sm l):=by
 have r:zbW c.needs c.leaves c.deeds c.notes=true:=h.r
 simp only[zbW,zeN,zdr,zds,zco,Bool.and_eq_true,decide_eq_true_eq,List.all_map,List.all_eq_true,Function.comp_apply,id_eq] at r
 obtain⟨⟨⟨_,a1⟩,_,a2⟩,_,_,c2⟩:=r
 exact⟨λl hl=>⟨h.nine.n9 l hl,zfw (a1 l hl)⟩,λl hl=>⟨h.nine.l9 l hl,zfw (a2 l hl)⟩,λls hls l hl=>⟨(h.nine.o9 ls hls).2 l hl,zfw ((c2 ls hls).2 l hl)⟩⟩
def badV:Option Nat→V
 | some i=>.int (i:Int)
 | none=>.non
theorem zhK {ls:List (List Int)}{P:List Int→Bool}{i:Nat}{l:List Int}(h:(ls.take i).findIdx? P=none) (e:ls[i]?=some l):ls.findIdx? P=if P l=true then some i else (ls.drop (i+1)).findIdx? P |>.map (· + (i+1)):=by
 obtain⟨hi,rfl⟩:=zge.mp e
 have s:ls=ls.take i++ls[i]::ls.drop (i+1):=by rw[List.getElem_cons_drop,List.take_append_drop]
 have l':(ls.take i).length=i:=by rw[List.length_take];omega
 conv=>lhs;rw[s]
 rw[List.findIdx?_append,h,List.findIdx?_cons]
 simp only[Option.none_or,l']
 split
 ·simp
 ·simp only[Option.map_map]
  congr 1
  funext x
  simp;omega
theorem ziL {K:Fg}{H:Hp}{Q:VK}{g:Addr}{x y:V}(h:SqL K H g [x,y]∨SqT K H g [x,y]) (q:Q x H):rIx K (.ref g) (.int 0) H Q:=by
 rcases h with h | h
 ·exact zaF h zaB q
 ·exact zaD h zaB q
theorem ziM {K:Fg}{H:Hp}{Q:VK}{g:Addr}{x y:V}(h:SqL K H g [x,y]∨SqT K H g [x,y]) (q:Q y H):rIx K (.ref g) (.int 1) H Q:=by
 rcases h with h | h
 ·exact zaF h (zan (j:=1) rfl) q
 ·exact zaD h (zan (j:=1) rfl) q
end My

namespace L2
open PySem PySem.Spec PySem.Calls PyProof.Rows PySem.W
theorem i_bm0 {K:Fg}{σ:St}{H:Hp}{Q:VK}{T:String}{r:V→List V→Hp→VK→Prop}{to:TE}(h:to σ H λx H1=>tyV K T x H1∧r x [] H1 Q):tBM0 K T r to σ H Q:=h
section
variable {X : Cx} {CX : CXT} {C : Addr} {ps : List Str} {j k : Nat} {sp : Sp} {E : XK} {x m : Str} {o e : Expr} {es : List Expr} {ta te : TE} {t : TA} {p pos apos : Pos}
end
end L2
namespace My
open PySem L2 PyProof.Rows
def zaq (S:List Addr) (H:Hp) (T:List Addr) (H':Hp):Prop:=OffA S H H'∧(∀ b∈T,b∈S∨H b=none)∧Free H H'
theorem zaq.refl {S:List Addr}{H:Hp} : zaq S H S H:=⟨λ_ _ _ h=>h,λ_ h=>.inl h,λ_ h=>h⟩
theorem zaq.trans {S T U:List Addr}{H H1 H2:Hp}(a:zaq S H T H1) (b:zaq T H1 U H2):zaq S H U H2:=by
 have k:∀ c∈T,c∈S∨H c=none:=a.2.1
 refine⟨λc o n e=>b.1 c o (λz=>?_) (a.1 c o n e),λc hc=>?_,λc hc=>a.2.2 c (b.2.2 c hc)⟩
 ·rcases k c z with w | w
  ·exact n w
  ·rw[w] at e;cases e
 ·rcases b.2.1 c hc with z | z
  ·exact k c z
  ·exact .inr (a.2.2 c z)
theorem zaq.same {S:List Addr}{H H':Hp}(e:Same H H'):zaq S H S H':=⟨e.offA,λ_ h=>.inl h,e.fr⟩
theorem zjt {S:List Addr}{H H':Hp}(e:OffA S H H') (h:∀ b∈S,∃ o,H' b=some o):Free H H':=λb hb=>by
 cases eb:H b with
 | none=>rfl
 | some o=>
  by_cases w:b∈S
  ·obtain⟨u,hu⟩:=h b w
   rw[hu] at hb;cases hb
  ·rw[e b o w eb] at hb;cases hb
theorem zaq.upd {S:List Addr}{H:Hp}{p:Addr}{o:HO}(h:p∈S):zaq S H S (upd H p o):=⟨zbn h,λ_ h=>.inl h,zcz⟩
theorem zaq.less {S T:List Addr}{H:Hp}(h:∀ b∈T,b∈S):zaq S H T H:=⟨λ_ _ _ h=>h,λb z=>.inl (h b z),λ_ h=>h⟩
theorem zaq.offR {cR cF cC:Addr}{H H':Hp}{r ka ia sa:Addr}{ks:List Int}{cr:Int→Cr}{fas:List Fa}{s:Rs}{kfp:List Addr}(e:OffA [r] H H') (A:RunX cR cF cC H' r ka ia sa ks cr fas s kfp):zaq (zas r ia sa fas) H (zas r ia sa fas) H':=
 ⟨λb o n=>e b o λz=>n (by rw[zms.mp z];simp[zas]),λ_ h=>.inl h,zjt e λb hb=>by
  rw[zms.mp hb]
  obtain⟨dx,ev,z,_⟩:=A.ins
  exact⟨_,z⟩⟩
def zhL (cr:Int→Cr) (s:Rs) (f:Fm) (st:List Fm):Rs:=match zav (cr f.n).leaves (zbf f) with
 | some i=>{s with en:=some (brk "leaves" f i)}
 | none=>match st with
  | []=>{s with st:=[],en:=some (ziH f)}
  | g::r=>{s with st:=zf1 cr g (f.hands.getD 0 0) (f.hands.getD 1 0)::r}
theorem zju {cr:Int→Cr}{f:Fm}{st:List Fm}(h:¬ f.p=((cr f.n).deeds.length:Int)):come cr f st=(f::st,zch cr f):=by
 cases st <;> (unfold come;rw[if_neg h])
theorem zlv {cr:Int→Cr}{f:Fm}{st:List Fm}(h:f.p=((cr f.n).deeds.length:Int)):come cr f st=match zav (cr f.n).leaves (zbf f) with
  | some i=>(f::st,some (brk "leaves" f i))
  | none=>match st with
   | []=>([],some (ziH f))
   | g::r=>come cr (zf1 cr g (f.hands.getD 0 0) (f.hands.getD 1 0)) r:=by
 cases st with
 | nil=>
  unfold come
  rw[if_pos h]
  all_goals (cases zav (cr f.n).leaves (zbf f) <;> rfl)
 | cons g r=>
  conv=>lhs;unfold come
  rw[if_pos h]
  all_goals (cases zav (cr f.n).leaves (zbf f) <;> rfl)
theorem Wf.take {ks:List Int}{cr:Int→Cr}{f g:Fm}{r:List Fm}{l0 l1:Int}(h:Wf ks cr (f::g::r)):Wf ks cr (zf1 cr g l0 l1::r):=⟨λk hk=>by
 rcases List.mem_cons.mp hk with rfl | hk
 ·exact zjn (h.tail.1 g List.mem_cons_self) (h.2 g List.mem_cons_self)
 ·exact h.tail.1 k (List.mem_cons_of_mem _ hk),λk hk=>h.tail.2 k hk⟩
def zdb (ks:List Int) (cr:Int→Cr) (s0:Rs) (f0:Fm) (st0:List Fm) (s:Rs):Prop:=s.k=s0.k∧s.ins=s0.ins∧((s.en=none∧∃ f st,s.st=f::st∧Wf ks cr (f::st)∧come cr f st=come cr f0 st0)∨∃ e,s.en=some e∧(s.st,some e)=come cr f0 st0)
def meaR (s:Rs):Nat:=2 * s.st.length+if s.en.isNone=true then 1 else 0
theorem zdb.leave {ks:List Int}{cr:Int→Cr}{s0:Rs}{f0:Fm}{st0:List Fm}{s:Rs}{f:Fm}{st:List Fm}(h:zdb ks cr s0 f0 st0 s) (he:s.en=none) (hs:s.st=f::st) (hp:f.p=((cr f.n).deeds.length:Int)):zdb ks cr s0 f0 st0 (zhL cr s f st)∧meaR (zhL cr s f st)<meaR s:=by
 obtain⟨k1,k2,h | ⟨e,he',_⟩⟩:=h
 ·obtain⟨_,f',st',e1,w,ec⟩:=h
  rw[hs] at e1
  injection e1 with e1 e2
  subst e1;subst e2
  rw[zlv hp] at ec
  obtain⟨sst,sins,sk,sen⟩:=s
  dsimp only at hs he k1 k2
  subst hs;subst he
  unfold zhL meaR
  cases hb:zav (cr f.n).leaves (zbf f) with
  | some i=>
   rw[hb] at ec
   exact⟨⟨k1,k2,.inr ⟨_,rfl,ec⟩⟩,by simp⟩
  | none=>
   rw[hb] at ec
   cases st with
   | nil=>exact⟨⟨k1,k2,.inr ⟨_,rfl,ec⟩⟩,by simp⟩
   | cons g r=>exact⟨⟨k1,k2,.inl ⟨rfl,_,r,rfl,w.take,ec⟩⟩,by simp⟩
 ·rw[he] at he';cases he'
theorem zdb.stay {ks:List Int}{cr:Int→Cr}{s0:Rs}{f0:Fm}{st0:List Fm}{s:Rs}{f:Fm}{st:List Fm}(h:zdb ks cr s0 f0 st0 s) (he:s.en=none) (hs:s.st=f::st) (hp:¬ f.p=((cr f.n).deeds.length:Int)):({s with en:=zch cr f} : Rs)=zca cr s0 f0 st0:=by
 obtain⟨k1,k2,h | ⟨e,he',_⟩⟩:=h
 ·obtain⟨_,f',st',e1,w,ec⟩:=h
  rw[hs] at e1
  injection e1 with e1 e2
  subst e1;subst e2
  rw[zju hp] at ec
  unfold zca
  rw[←ec,←k1,←k2,←hs]
 ·rw[he] at he';cases he'
theorem zdb.ended {ks:List Int}{cr:Int→Cr}{s0:Rs}{f0:Fm}{st0:List Fm}{s:Rs}(h:zdb ks cr s0 f0 st0 s) (he:¬ s.en=none):s=zca cr s0 f0 st0:=by
 obtain⟨k1,k2,h | ⟨e,he',ec⟩⟩:=h
 ·exact absurd h.1 he
 ·unfold zca
  rw[←ec,←k1,←k2,←he']
theorem zdb.top {ks:List Int}{cr:Int→Cr}{s0:Rs}{f0:Fm}{st0:List Fm}{s:Rs}(h:zdb ks cr s0 f0 st0 s) (he:s.en=none):∃ f st,s.st=f::st∧Wf ks cr (f::st):=by
 obtain⟨_,_,h | ⟨e,he',_⟩⟩:=h
 ·obtain⟨_,f,st,e1,w,_⟩:=h;exact⟨f,st,e1,w⟩
 ·rw[he] at he';cases he'
theorem zcc {xs:List Int}{k:Int}(h0:0≤k) (h:k<(xs.length:Int)):atI (xs.map V.int) k=some (.int (xs.getD k.toNat 0)):=by
 have hk:k.toNat<xs.length:=by omega
 exact zft h0 (by rw[zgm,List.getElem?_eq_getElem hk,List.getD_eq_getElem?_getD,List.getElem?_eq_getElem hk];rfl)
theorem zcE {xs:List Int}{j:Nat}{v:Int} : (xs.map V.int).set j (.int v)=(xs.set j v).map V.int:=by rw[List.map_set]
theorem zlw {t:Fa}{fas:List Fa} : ((t::fas).reverse.map λt=>V.ref t.1).dropLast=fas.reverse.map λt=>V.ref t.1:=by
 rw[List.reverse_cons,List.map_append]
 exact List.dropLast_concat
theorem zlx {t:Fa}{fas:List Fa} : ((t::fas).reverse.map λt=>V.ref t.1)[((t::fas).reverse.map λt=>V.ref t.1).length - 1]?=some (.ref t.1):=by
 rw[List.reverse_cons,List.map_append]
 simp
theorem Rs.quiet {s:Rs}(h:s.en=none):({s with en:=none} : Rs)=s:=by cases s;cases h;rfl
theorem zmG {r ia sa:Addr}{t:Fa}{fas:List Fa} : ∀ b∈zas r ia sa fas,b∈zas r ia sa (t::fas):=λb h=>by
 unfold zas at h ⊢
 rw[zaz]
 simp only[List.mem_cons] at h ⊢
 rcases h with z | z | z | z
 ·exact .inl z
 ·exact .inr (.inl z)
 ·exact .inr (.inr (.inl z))
 ·exact .inr (.inr (.inr (.inr (.inr (.inr z)))))
theorem zp2 {r ia sa p ha aa:Addr}{fas:List Fa} : p∈zas r ia sa ((p,ha,aa)::fas):=by simp[zas,zaz]
theorem zoo {r ia sa p ha aa:Addr}{fas:List Fa} : ha∈zas r ia sa ((p,ha,aa)::fas):=by simp[zas,zaz]
theorem zop {r ia sa:Addr}{fas:List Fa} : sa∈zas r ia sa fas:=by simp[zas]
theorem zp3 {r ia sa:Addr}{fas:List Fa} : ia∈zas r ia sa fas:=by simp[zas]
theorem zgt {r ia sa:Addr}{fas:List Fa} : r∈zas r ia sa fas:=by simp[zas]
def zhM (cr:Int→Cr) (ks:List Int) (s:Rs) (f:Fm) (st:List Fm) (m a0 a1:Int):Rs:=if m∉ks then {s with en:=some [.str "lost"]} else if 20≤(f::st).length then {s with en:=some [.str "deep"]} else
   match zav (cr m).needs (zcB a0 a1) with
   | some i=>{s with en:=some (brk "needs" f i)}
   | none=>zca cr s (zbq m a0 a1) (f::st)
theorem zgu {cr:Int→Cr}{ks:List Int}{s:Rs}{f:Fm}{st:List Fm}{m g0 g1 t0 t1:Int} : zcv cr ks s f st (.call m g0 g1 t0 t1)=zhM cr ks s f st m (f.hands.getD g0.toNat 0) (f.hands.getD g1.toNat 0):=rfl
theorem zaq.push {r ia sa y ha aa:Addr}{fas:List Fa}{H H1:Hp}{o:HO}(e:Same H H1) (h1:H y=none) (h2:H ha=none) (h3:H aa=none):zaq (zas r ia sa fas) H (zas r ia sa ((y,ha,aa)::fas)) (L2.upd H1 sa o):=by
 refine⟨e.offA.trans (zbn zop),λb hb=>?_,λb hb=>e.fr b (zcz b hb)⟩
 unfold zas at hb
 rw[zaz] at hb
 simp only[List.mem_cons] at hb
 rcases hb with rfl | rfl | rfl | rfl | rfl | rfl | hb
 ·exact .inl zgt
 ·exact .inl zp3
 ·exact .inl zop
 ·exact .inr h1
 ·exact .inr h2
 ·exact .inr h3
 ·exact .inl (by simp[zas,hb])
theorem ze7 {cr:Int→Cr} : ∀ {f:Fm}{st:List Fm},(come cr f st).1.length≤(f::st).length
 | f,[]=>by
  unfold come
  split
  ·split <;> simp
  ·simp
 | f,g::st=>by
  unfold come
  split
  ·split
   ·simp
   ·exact Nat.le_trans ze7 (by simp)
  ·simp
theorem zhN {cr:Int→Cr}{ks:List Int}{s:Rs}(h:s.st.length≤20):(zci cr ks s).st.length≤20:=by
 unfold zci
 split
 ·exact h
 ·rename_i f st e
  have cl:∀ (t:Rs) (g:Fm),(zca cr t g st).st.length≤20:=λt g=>by
   have:=ze7 (cr:=cr) (f:=g) (st:=st)
   rw[e,List.length_cons] at h
   rw[List.length_cons] at this
   exact Nat.le_trans this h
  split
  ·exact h
  ·rename_i d _
   cases d with
   | set hd l=>exact cl _ _
   | part hd l b=>exact cl _ _
   | draw hd lo hi=>
    unfold zcv
    dsimp only
    split
    ·exact h
    ·split
     ·exact cl _ _
     ·exact h
   | turn l q=>exact cl _ _
   | hold l=>
    unfold zcv
    dsimp only
    split
    ·exact h
    ·exact cl _ _
   | call m g0 g1 t0 t1=>
    unfold zcv
    dsimp only
    split
    ·exact h
    ·split
     ·exact h
     ·rename_i l20
      split
      ·exact h
      ·refine Nat.le_trans ze7 ?_
       simp only[List.length_cons] at l20 ⊢
       omega
theorem zjv {cr:Int→Cr}{ks:List Int}{s:Rs}{f:Fm}{st:List Fm}{d:Dd}(hst:s.st=f::st) (hd:zdP (cr f.n) f.p=some d):zci cr ks s=zcv cr ks {s with k:=s.k+1,en:=s.en} f st d:=by
 obtain⟨a,b,c,e⟩:=s
 dsimp only at hst
 subst hst
 unfold zci
 dsimp only
 rw[hd]
theorem zoq:decide (("part" : Str) ="set")=false:=by decide +kernel
theorem zly:decide (("draw" : Str) ="set")=false∧decide (("draw" : Str) ="part")=false:=by decide +kernel
theorem ziN:decide (("turn" : Str) ="set")=false∧decide (("turn" : Str) ="part")=false∧decide (("turn" : Str) ="draw")=false:=by decide +kernel
theorem zgQ:decide (("hold" : Str) ="set")=false∧decide (("hold" : Str) ="part")=false∧decide (("hold" : Str) ="draw")=false∧decide (("hold" : Str) ="turn")=false:=by decide +kernel
theorem zfA:decide (("call" : Str) ="set")=false∧decide (("call" : Str) ="part")=false∧decide (("call" : Str) ="draw")=false∧decide (("call" : Str) ="turn")=false∧decide (("call" : Str) ="hold")=false:=by decide +kernel
def zp4 (H:Hp) (en:End) (v:V):Prop:=∃ T,v=.ref T∧H T=some (.tup (en.getD [.str "cut"]))
end My

namespace My
open PySem L2 PyProof.Rows
theorem zhO {l h a:List Int}(h9:l.length=9) (hz:zbB [7,8] l=true) (h4:h.length=4) (a2:a.length=2):zaV l (h++a++[0,0])=zaV l (h++a++h.take 2):=by
 match l,h9 with
 | [c,f0,f1,f2,f3,f4,f5,f6,f7],_=>
 match h,h4 with
 | [h0,h1,h2,h3],_=>
 match a,a2 with
 | [a0,a1],_=>
 simp[zbB] at hz
 obtain⟨_,rfl,rfl⟩:=hz
 simp[zaV,dot]
theorem ziO {l h a:List Int}(h9:l.length=9) (hz:zbB [1,2,3,4] l=true) (h4:h.length=4) (a2:a.length=2):zaV l ([0,0,0,0]++a++h.take 2)=zaV l (h++a++h.take 2):=by
 match l,h9 with
 | [c,f0,f1,f2,f3,f4,f5,f6,f7],_=>
 match h,h4 with
 | [h0,h1,h2,h3],_=>
 match a,a2 with
 | [a0,a1],_=>
 simp[zbB] at hz
 obtain⟨_,rfl,rfl,rfl,rfl⟩:=hz
 simp[zaV,dot]
theorem zcJ {ns ms:List Int} : ∀ {ls:List (List Int)},(∀ l∈ls,zaV l ns=zaV l ms)→zav ls ns=zav ls ms
 | [],_=>rfl
 | l::ls,h=>by
  have ih:=zcJ (ls:=ls) λk hk=>h k (List.mem_cons_of_mem _ hk)
  unfold zav at ih ⊢
  rw[List.findIdx?_cons,List.findIdx?_cons,ih,h l List.mem_cons_self]
theorem Cr.Rt.zero {c:Cr}(h:c.Rt):(∀ l∈c.leaves,zbB [1,2,3,4] l=true)∧(∀ ls∈c.notes,∀ l∈ls,zbB [7,8] l=true):=by
 have r:zbW c.needs c.leaves c.deeds c.notes=true:=h.r
 simp only[zbW,zeN,zdr,zds,zco,Bool.and_eq_true,decide_eq_true_eq,List.all_map,List.all_eq_true,Function.comp_apply,id_eq] at r
 obtain⟨⟨⟨_,a1⟩,_,a2⟩,_,_,c2⟩:=r
 exact⟨λl hl=>a2 l hl,λls hls l hl=>(c2 ls hls).2 l hl⟩
def lawN (f:Fm):List Int:=f.hands++f.asked++[0,0]
def zhP (f:Fm):List Int:=[0,0,0,0]++f.asked++f.hands.take 2
theorem zor {ks:List Int}{cr:Int→Cr}{f:Fm}(w:WfF ks cr f) (rt:(cr f.n).Rt) {ls:List (List Int)}(h:ls∈(cr f.n).notes):zav ls (lawN f)=zav ls (zbf f):=zcJ λl hl=>zhO ((rt.nine.o9 ls h).2 l hl) (rt.zero.2 ls h l hl) w.h4 w.a2
theorem zos {ks:List Int}{cr:Int→Cr}{f:Fm}(w:WfF ks cr f) (rt:(cr f.n).Rt):zav (cr f.n).leaves (zhP f)=zav (cr f.n).leaves (zbf f):=zcJ λl hl=>ziO (rt.nine.l9 l hl) (rt.zero.1 l hl) w.h4 w.a2
theorem zek {ks:List Int}{cr:Int→Cr}{f:Fm}{l:List Int}(w:WfF ks cr f) (h9:l.length=9) (hz:zbB [7,8] l=true):zaV l (lawN f)=zaV l (zbf f):=zhO h9 hz w.h4 w.a2
theorem zel {ks:List Int}{cr:Int→Cr}{f:Fm}(h:WfF ks cr f):(lawN f).length=8:=by
 unfold lawN
 simp[h.h4,h.a2]
theorem zlz {ks:List Int}{cr:Int→Cr}{f:Fm}(h:WfF ks cr f):(zhP f).length=8:=by
 unfold zhP
 simp[h.h4,h.a2]
def ffI:Option Nat→Int
 | some i=>(i:Int)
 | none=>-1
theorem zfB {K:Fg}{H:Hp}{v:V}{c:Cr}{fp:List Addr}(h9:∀ d∈c.deeds,zdp d) (h:RepF H (crD c) v fp):∃ pa y1 y2 b3 b4 dvs nvs,v=.ref pa∧H pa=some (.lst [.ref y1,.ref y2,.ref b3,.ref b4])∧zbI K H y1 c.needs∧zbI K H y2 c.leaves∧H b3=some (.lst dvs)∧zc4 H c.deeds dvs∧H b4=some (.lst nvs)∧R2 (λls x=>∃ a,x=.ref a∧zbI K H a ls) c.notes nvs:=by
 unfold crD RepF at h
 obtain⟨pa,pvs,f,rfl,rfl,hp,r⟩:=h
 obtain⟨x1,x2,x3,x4,f1,f2,f3,f4,rfl,g1,g2,g3,g4⟩:=zhx r
 obtain⟨y1,rfl,hy1⟩:=zdG (K:=K) g1
 obtain⟨y2,rfl,hy2⟩:=zdG (K:=K) g2
 obtain⟨b3,dvs,r3,rfl,h3,z3⟩:=RepF.lso g3
 obtain⟨b4,nvs,r4,rfl,h4,z4⟩:=RepF.lso g4
 refine⟨pa,y1,y2,b3,b4,dvs,nvs,rfl,hp,hy1,hy2,h3,⟨by simpa using z3.length,λi d x e1 e2=>?_⟩,h4,⟨by simpa using z4.length,λi ls x e1 e2=>?_⟩⟩
 ·obtain⟨f,hf⟩:=zak.item z3 i (toD d) x (by rw[zgm,e1];rfl) e2
  exact zfq (zei (h9 d (zmg e1))) hf
 ·obtain⟨f,hf⟩:=zak.item z4 i (zaG ls) x (by rw[zgm,e1];rfl) e2
  exact zdG hf
def zbJ (H:Hp):List Fm→List Fa→Prop
 | [],[]=>True
 | f::st,(p,ha,aa)::r=>H p=some (.lst [.int f.n,.int f.p,.ref ha,.ref aa])∧H ha=some (.lst (f.hands.map V.int))∧H aa=some (.lst (f.asked.map V.int))∧zbJ H st r
 | _,_=>False
theorem zbJ.frame {H H':Hp} : ∀ {st:List Fm}{fas:List Fa},(∀ b∈fasL fas,∀ o,H b=some o→H' b=some o)→zbJ H st fas→zbJ H' st fas
 | [],[],_,_=>trivial
 | f::st,(p,ha,aa)::r,k,h=>by
  obtain⟨h1,h2,h3,h4⟩:=h
  rw[zaz] at k
  exact⟨k _ (by simp) _ h1,k _ (by simp) _ h2,k _ (by simp) _ h3,zbJ.frame (λb hb=>k b (by simp[hb])) h4⟩
 | [],_::_,_,h=>h.elim
 | _::_,[],_,h=>h.elim
theorem zbJ.len {H:Hp} : ∀ {st:List Fm}{fas:List Fa},zbJ H st fas→st.length=fas.length
 | [],[],_=>rfl
 | f::st,t::r,h=>by rw[List.length_cons,List.length_cons,zbJ.len h.2.2.2]
 | [],_::_,h=>h.elim
 | _::_,[],h=>h.elim
theorem zbJ.at {H:Hp} : ∀ {st:List Fm}{fas:List Fa},zbJ H st fas→∀ (i:Nat) f t,st[i]?=some f→fas[i]?=some t→H t.1=some (.lst [.int f.n,.int f.p,.ref t.2.1,.ref t.2.2])
 | [],[],_,i,f,t,e,_=>by simp at e
 | f::st,(p,ha,aa)::r,h,0,g,t,e1,e2=>by simp at e1 e2;subst e1;subst e2;exact h.1
 | f::st,(p,ha,aa)::r,h,i+1,g,t,e1,e2=>zbJ.at h.2.2.2 i g t (by simpa using e1) (by simpa using e2)
 | [],_::_,h,_,_,_,_,_=>h.elim
 | _::_,[],h,_,_,_,_,_=>h.elim
theorem zbJ.has {H:Hp} : ∀ {st:List Fm}{fas:List Fa},zbJ H st fas→∀ b∈fasL fas,∃ xs,H b=some (.lst xs)
 | [],[],_,b,hb=>by simp[fasL] at hb
 | f::st,(p,ha,aa)::r,h,b,hb=>by
  obtain⟨h1,h2,h3,h4⟩:=h
  rw[zaz] at hb
  simp only[List.mem_cons] at hb
  rcases hb with rfl | rfl | rfl | hb
  ·exact⟨_,h1⟩
  ·exact⟨_,h2⟩
  ·exact⟨_,h3⟩
  ·exact zbJ.has h4 b hb
 | [],_::_,h,_,_=>h.elim
 | _::_,[],h,_,_=>h.elim
def ownL (ra sk:Addr) (fas:List Fa):List Addr:=ra::sk::fasL fas
structure LawX (H:Hp) (da ra sk:Addr) (ks:List Int) (cr:Int→Cr) (fas:List Fa) (st:List Fm) (ins:List Int) (lfp:List Addr):Prop where
 d:∃ kvs,H da=some (.dK kvs)∧KVs (λm v=>∃ f,RepF H (crD (cr m)) v f∧∀ b∈f,b∈lfp) kvs ks
 rt:∀ m∈ks,(cr m).Rt
 inp:H ra=some (.lst (ins.map V.int))
 sta:H sk=some (.lst (fas.reverse.map λt=>V.ref t.1))
 fr:zbJ H st fas
 nd:(ownL ra sk fas).Nodup
 off:∀ b∈ownL ra sk fas,b∉lfp
 has:∀ b∈lfp,∃ o,H b=some o
section
variable {H H' : Hp} {da ra sk : Addr} {ks : List Int} {cr : Int → Cr} {fas : List Fa} {st : List Fm} {ins : List Int} {lfp : List Addr} {f : Fm} {p ha aa : Addr}
theorem LawX.own (A:LawX H da ra sk ks cr fas st ins lfp):∀ b∈ownL ra sk fas,∃ xs,H b=some (.lst xs):=λb hb=>by
 unfold ownL at hb
 simp only[List.mem_cons] at hb
 rcases hb with rfl | rfl | hb
 ·exact⟨_,A.inp⟩
 ·exact⟨_,A.sta⟩
 ·exact A.fr.has b hb
theorem LawX.dfr (A:LawX H da ra sk ks cr fas st ins lfp) (tk:Tups H H') (k:∀ b∈lfp,∀ o,H b=some o→H' b=some o) (k2:∀ kvs,H da=some (.dK kvs)→H' da=some (.dK kvs)):∃ kvs,H' da=some (.dK kvs)∧KVs (λm v=>∃ f,RepF H' (crD (cr m)) v f∧∀ b∈f,b∈lfp) kvs ks:=by
 obtain⟨kvs,e,q⟩:=A.d
 refine⟨kvs,k2 _ e,q.mono λm v ⟨f,h1,h2⟩=>⟨f,RepF.frame tk _ (λb hb=>?_) h1,h2⟩⟩
 obtain⟨o,ho⟩:=RepF.has _ h1 b hb
 rw[ho]
 exact k b (h2 b hb) o ho
theorem LawX.frame (A:LawX H da ra sk ks cr fas st ins lfp) (tk:Tups H H') (k:∀ b,b∈ownL ra sk fas∨b∈lfp→∀ o,H b=some o→H' b=some o) (k2:∀ kvs,H da=some (.dK kvs)→H' da=some (.dK kvs)):LawX H' da ra sk ks cr fas st ins lfp where
 d:=A.dfr tk (λb hb=>k b (.inr hb)) k2
 rt:=A.rt
 inp:=k _ (.inl (by simp[ownL])) _ A.inp
 sta:=k _ (.inl (by simp[ownL])) _ A.sta
 fr:=A.fr.frame λb hb=>k b (.inl (by simp[ownL,hb]))
 nd:=A.nd
 off:=A.off
 has:=λb hb=>by obtain⟨o,e⟩:=A.has b hb;exact⟨o,k b (.inr hb) o e⟩
theorem LawX.same (A:LawX H da ra sk ks cr fas st ins lfp) (e:Same H H'):LawX H' da ra sk ks cr fas st ins lfp:=A.frame e.tups (λb _ o ho=>e b o ho) λkvs z=>e _ _ z
theorem LawX.dupd {b:Addr}{o:HO}(A:LawX H da ra sk ks cr fas st ins lfp) (hb:b∈ownL ra sk fas):(∃ kvs,(upd H b o) da=some (.dK kvs)∧KVs (λm v=>∃ f,RepF (upd H b o) (crD (cr m)) v f∧∀ b∈f,b∈lfp) kvs ks)∧∀ c∈lfp,∃ u,(upd H b o) c=some u:=by
 obtain⟨xs,hx⟩:=A.own b hb
 have ne:∀ c∈lfp,c≠b:=λc hc z=>A.off b hb (by rw[←z];exact hc)
 refine⟨A.dfr (zbC hx) (λc hc u hu=>by rw[zaj (ne c hc)];exact hu) λkvs z=>by rw[zaj (zlR z hx (by intro w;cases w))];exact z,λc hc=>?_⟩
 obtain⟨u,hu⟩:=A.has c hc
 exact⟨u,by rw[zaj (ne c hc)];exact hu⟩
theorem LawX.ndr (A:LawX H da ra sk ks cr fas st ins lfp):ra≠sk∧ra∉fasL fas∧sk∉fasL fas∧(fasL fas).Nodup:=by
 have h:=A.nd
 unfold ownL at h
 simp only[List.nodup_cons,List.mem_cons,not_or] at h
 obtain⟨⟨a1,a2⟩,b1,c1⟩:=h
 exact⟨a1,a2,b1,c1⟩
theorem LawX.setIn {xs:List Int}(A:LawX H da ra sk ks cr fas st ins lfp):LawX (upd H ra (.lst (xs.map V.int))) da ra sk ks cr fas st xs lfp:=by
 obtain⟨n1,n2,n3,n4⟩:=A.ndr
 obtain⟨d,hs⟩:=A.dupd (b:=ra) (o:=.lst (xs.map V.int)) (by simp[ownL])
 exact⟨d,A.rt,zad,by rw[zaj n1.symm];exact A.sta,A.fr.frame λb hb o ho=>by rw[zaj (λz=>n2 (by rw[←z];exact hb))];exact ho,A.nd,A.off,hs⟩
theorem LawX.setF {q:Int}(A:LawX H da ra sk ks cr ((p,ha,aa)::fas) (f::st) ins lfp):LawX (upd H p (.lst [.int f.n,.int q,.ref ha,.ref aa])) da ra sk ks cr ((p,ha,aa)::fas) ({f with p:=q}::st) ins lfp:=by
 obtain⟨n1,n2,n3,n4⟩:=A.ndr
 obtain⟨d,hs⟩:=A.dupd (b:=p) (o:=.lst [.int f.n,.int q,.ref ha,.ref aa]) (by simp[ownL,zaz])
 obtain⟨a1,a2,a3,a4,a5,a6⟩:=zjr n4
 rw[zaz] at n2 n3
 simp only[List.mem_cons,not_or] at n2 n3
 obtain⟨f1,f2,f3,f4⟩:=A.fr
 exact⟨d,A.rt,by rw[zaj n2.1];exact A.inp,by rw[zaj n3.1];exact A.sta,⟨zad,by rw[zaj (Ne.symm a1)];exact f2,by rw[zaj (Ne.symm a2)];exact f3,f4.frame λb hb o ho=>by rw[zaj (λz=>a3 (by rw[←z];exact hb))];exact ho⟩,A.nd,A.off,hs⟩
theorem LawX.setH {xs:List Int}(A:LawX H da ra sk ks cr ((p,ha,aa)::fas) (f::st) ins lfp):LawX (upd H ha (.lst (xs.map V.int))) da ra sk ks cr ((p,ha,aa)::fas) ({f with hands:=xs}::st) ins lfp:=by
 obtain⟨n1,n2,n3,n4⟩:=A.ndr
 obtain⟨d,hs⟩:=A.dupd (b:=ha) (o:=.lst (xs.map V.int)) (by simp[ownL,zaz])
 obtain⟨a1,a2,a3,a4,a5,a6⟩:=zjr n4
 rw[zaz] at n2 n3
 simp only[List.mem_cons,not_or] at n2 n3
 obtain⟨f1,f2,f3,f4⟩:=A.fr
 exact⟨d,A.rt,by rw[zaj n2.2.1];exact A.inp,by rw[zaj n3.2.1];exact A.sta,⟨by rw[zaj a1];exact f1,zad,by rw[zaj (Ne.symm a4)];exact f3,f4.frame λb hb o ho=>by rw[zaj (λz=>a5 (by rw[←z];exact hb))];exact ho⟩,A.nd,A.off,hs⟩
theorem zhQ {t:Fa} : ∀ b∈ownL ra sk fas,b∈ownL ra sk (t::fas):=λb h=>by
 unfold ownL at h ⊢
 rw[zaz]
 simp only[List.mem_cons] at h ⊢
 rcases h with z | z | z
 ·exact .inl z
 ·exact .inr (.inl z)
 ·exact .inr (.inr (.inr (.inr (.inr z))))
theorem LawX.pop {t:Fa}(A:LawX H da ra sk ks cr (t::fas) (f::st) ins lfp):LawX (upd H sk (.lst (fas.reverse.map λt=>V.ref t.1))) da ra sk ks cr fas st ins lfp:=by
 obtain⟨n1,n2,n3,n4⟩:=A.ndr
 obtain⟨d,hs⟩:=A.dupd (b:=sk) (o:=.lst (fas.reverse.map λt=>V.ref t.1)) (by simp[ownL])
 obtain⟨p,ha,aa⟩:=t
 rw[zaz] at n2 n3 n4
 simp only[List.mem_cons,not_or] at n2 n3
 obtain⟨f1,f2,f3,f4⟩:=A.fr
 refine⟨d,A.rt,by rw[zaj n1];exact A.inp,zad,f4.frame λb hb o ho=>by rw[zaj (λz=>n3.2.2.2 (by rw[←z];exact hb))];exact ho,?_,λb hb=>A.off b (zhQ b hb),hs⟩
 unfold ownL
 simp only[List.nodup_cons,List.mem_cons,not_or] at n4 ⊢
 exact⟨⟨n1,n2.2.2.2⟩,n3.2.2.2,n4.2.2.2⟩
theorem LawX.push (A:LawX H da ra sk ks cr fas st ins lfp) (e:Same H H') (p0:H p=none) (h0:H ha=none) (a0:H aa=none) (n1:p≠ha) (n2:p≠aa) (n3:ha≠aa) (h1:H' p=some (.lst [.int f.n,.int f.p,.ref ha,.ref aa])) (h2:H' ha=some (.lst (f.hands.map V.int))) (h3:H' aa=some (.lst (f.asked.map V.int))) :
  LawX (upd H' sk (.lst ((fas.reverse.map λt=>V.ref t.1)++[.ref p]))) da ra sk ks cr ((p,ha,aa)::fas) (f::st) ins lfp:=by
 have A':=A.same e
 obtain⟨m1,m2,m3,m4⟩:=A.ndr
 obtain⟨d,hs⟩:=A'.dupd (b:=sk) (o:=.lst ((fas.reverse.map λt=>V.ref t.1)++[.ref p])) (by simp[ownL])
 have ow:∀ b∈ownL ra sk fas,b≠p∧b≠ha∧b≠aa:=λb hb=>by
  obtain⟨o,ho⟩:=A.own b hb
  exact⟨zam ho p0,zam ho h0,zam ho a0⟩
 have os:=ow sk (by simp[ownL])
 have o2:=ow ra (by simp[ownL])
 have of':∀ b∈fasL fas,b≠p∧b≠ha∧b≠aa:=λb hb=>ow b (by simp[ownL,hb])
 refine⟨d,A.rt,by rw[zaj m1];exact A'.inp,by rw[zad];simp,⟨by rw[zaj os.1.symm];exact h1,by rw[zaj os.2.1.symm];exact h2,by rw[zaj os.2.2.symm];exact h3,A'.fr.frame λb hb o ho=>by rw[zaj (λz=>m3 (by rw[←z];exact hb))];exact ho⟩,?_,λb hb=>?_,hs⟩
 ·unfold ownL
  rw[zaz]
  simp only[List.nodup_cons,List.mem_cons,not_or]
  exact⟨⟨m1,o2.1,o2.2.1,o2.2.2,m2⟩,⟨os.1,os.2.1,os.2.2,m3⟩,⟨n1,n2,λz=>(of' p z).1 rfl⟩,⟨n3,λz=>(of' ha z).2.1 rfl⟩,λz=>(of' aa z).2.2 rfl,m4⟩
 ·have kn:∀ b∈lfp,b≠p∧b≠ha∧b≠aa:=λb hb=>by
   obtain⟨o,ho⟩:=A.has b hb
   exact⟨zam ho p0,zam ho h0,zam ho a0⟩
  unfold ownL at hb
  rw[zaz] at hb
  simp only[List.mem_cons] at hb
  rcases hb with rfl | rfl | rfl | rfl | rfl | hb
  ·exact A.off b (by simp[ownL])
  ·exact A.off b (by simp[ownL])
  ·exact λz=>(kn _ z).1 rfl
  ·exact λz=>(kn _ z).2.1 rfl
  ·exact λz=>(kn _ z).2.2 rfl
  ·exact A.off b (by simp[ownL,hb])
theorem zaq.pushL {o:HO}(e:Same H H') (h1:H p=none) (h2:H ha=none) (h3:H aa=none):zaq (ownL ra sk fas) H (ownL ra sk ((p,ha,aa)::fas)) (L2.upd H' sk o):=by
 refine⟨e.offA.trans (zbn (by simp[ownL])),λb hb=>?_,λb hb=>e.fr b (zcz b hb)⟩
 unfold ownL at hb
 rw[zaz] at hb
 simp only[List.mem_cons] at hb
 rcases hb with rfl | rfl | rfl | rfl | rfl | hb
 ·exact .inl (by simp[ownL])
 ·exact .inl (by simp[ownL])
 ·exact .inr h1
 ·exact .inr h2
 ·exact .inr h3
 ·exact .inl (by simp[ownL,hb])
theorem LawX.craft (A:LawX H da ra sk ks cr fas st ins lfp) {m:Int}(hm:m∈ks):∃ kvs v g,H da=some (.dK kvs)∧valV kvs (.inl m)=some v∧RepF H (crD (cr m)) v g:=by
 obtain⟨kvs,e,q⟩:=A.d
 obtain⟨v,e1,g,e2,_⟩:=q.2.2 m hm
 exact⟨kvs,v,g,e,e1,e2⟩
theorem LawX.no (A:LawX H da ra sk ks cr fas st ins lfp) {m:Int}(hm:m∉ks):∃ kvs,H da=some (.dK kvs)∧valV kvs (.inl m)=none:=by
 obtain⟨kvs,e,q⟩:=A.d
 exact⟨kvs,e,q.no hm⟩
theorem zfC:p∈ownL ra sk ((p,ha,aa)::fas):=by simp[ownL,zaz]
theorem zhR:ha∈ownL ra sk ((p,ha,aa)::fas):=by simp[ownL,zaz]
theorem zp5:sk∈ownL ra sk fas:=by simp[ownL]
theorem zp6:ra∈ownL ra sk fas:=by simp[ownL]
end
end My

namespace My
open PySem L2 PyProof.Rows
theorem zot {ks:List Int}{cr:Int→Cr}{s:Rs}(h:WfR ks cr s) (he:s.en=none):(zci cr ks s).k=s.k+1:=by
 obtain⟨f,st,e,hp⟩:=h.on he
 have hw:=h.w
 rw[e] at hw
 have wf:=hw.1 f List.mem_cons_self
 have hlt:f.p.toNat<(cr f.n).deeds.length:=by have:=wf.p0;omega
 unfold zci
 rw[e]
 dsimp only
 unfold zdP
 rw[List.getElem?_eq_getElem hlt]
 dsimp only
 generalize (cr f.n).deeds[f.p.toNat]=d
 cases d with
 | set hd l=>rfl
 | part hd l b=>rfl
 | draw hd lo hi=>
  unfold zcv
  dsimp only
  split
  ·rfl
  ·split <;> rfl
 | turn l q=>rfl
 | hold l=>
  unfold zcv
  dsimp only
  split <;> rfl
 | call m g0 g1 t0 t1=>
  unfold zcv
  dsimp only
  split
  ·rfl
  ·split
   ·rfl
   ·split <;> rfl
theorem ziP {ks:List Int}{cr:Int→Cr} : ∀ (n:Nat) {s:Rs},s.st.length≤20→(goR cr ks n s).st.length≤20
 | 0,s,h=>h
 | n+1,s,h=>by
  unfold goR
  split
  ·exact ziP n (zhN h)
  ·exact h
def zmH:V→Bool
 | .int _=>true
 | .str _=>true
 | _=>false
def vD:V→D
 | .int i=>.int i
 | .str s=>.str s
 | _=>.non
def zc5 (en:End):Prop:=∀ e,en=some e→∃ s xs,e=.str s::xs∧s≠ "cut" ∧e.all zmH=true∧e.length≤5
theorem zc5.none:zc5 none:=λe z=>by cases z
theorem zdv {w:Str}{f:Fm}{i:Nat} : zc5 (some (brk w f i)):=λe z=>by
 cases z
 exact⟨_,_,rfl,by decide +kernel,rfl,by show 5≤5;omega⟩
theorem zkb {f:Fm} : zc5 (some (ziH f)):=λe z=>by
 cases z
 exact⟨_,_,rfl,by decide +kernel,rfl,by show 3≤5;omega⟩
theorem zlA:zc5 (some [.str "dry"]):=λe z=>by
 cases z
 exact⟨_,_,rfl,by decide +kernel,rfl,by show 1≤5;omega⟩
theorem ziQ:zc5 (some [.str "stray"]):=λe z=>by
 cases z
 exact⟨_,_,rfl,by decide +kernel,rfl,by show 1≤5;omega⟩
theorem zkc:zc5 (some [.str "lost"]):=λe z=>by
 cases z
 exact⟨_,_,rfl,by decide +kernel,rfl,by show 1≤5;omega⟩
theorem zkd:zc5 (some [.str "deep"]):=λe z=>by
 cases z
 exact⟨_,_,rfl,by decide +kernel,rfl,by show 1≤5;omega⟩
theorem zfD {cr:Int→Cr}{f:Fm} : zc5 (zch cr f):=by
 unfold zch
 cases zav ((cr f.n).notes.getD f.p.toNat []) (zbf f) with
 | none=>exact zc5.none
 | some i=>exact zdv
theorem zcF {cr:Int→Cr} : ∀ {f:Fm}{st:List Fm},zc5 (come cr f st).2
 | f,[]=>by
  unfold come
  split
  ·split
   ·exact zdv
   ·exact zkb
  ·exact zfD
 | f,g::st=>by
  unfold come
  split
  ·split
   ·exact zdv
   ·exact zcF
  ·exact zfD
theorem zlB {cr:Int→Cr}{ks:List Int}{s:Rs}(h:zc5 s.en):zc5 (zci cr ks s).en:=by
 unfold zci
 split
 ·exact h
 ·split
  ·exact h
  ·rename_i d _
   cases d with
   | set hd l=>exact zcF
   | part hd l b=>exact zcF
   | draw hd lo hi=>
    unfold zcv
    dsimp only
    split
    ·exact zlA
    ·split
     ·exact zcF
     ·exact ziQ
   | turn l q=>exact zcF
   | hold l=>
    unfold zcv
    dsimp only
    split
    ·exact zdv
    ·exact zcF
   | call m g0 g1 t0 t1=>
    unfold zcv
    dsimp only
    split
    ·exact zkc
    ·split
     ·exact zkd
     ·split
      ·exact zdv
      ·exact zcF
theorem zhS {ks:List Int}{cr:Int→Cr} : ∀ (n:Nat) {s:Rs},zc5 s.en→zc5 (goR cr ks n s).en
 | 0,s,h=>h
 | n+1,s,h=>by
  unfold goR
  split
  ·exact zhS n (zlB h)
  ·exact h
theorem zfE {K:Fg}{H:Hp} : ∀ {xs:List V},xs.all zmH=true→Reps K H (xs.map vD) xs
 | [],_=>by unfold Reps;rfl
 | x::xs,h=>by
  rw[List.all_cons,Bool.and_eq_true] at h
  rw[zmc]
  unfold Reps
  refine⟨x,xs,rfl,?_,zfE h.2⟩
  cases x <;> first | (unfold vD Rep;rfl) | (cases h.1)
theorem zc5.flat {en:End}(h:zc5 en):(en.getD [.str "cut"]).all zmH=true∧(en.getD [.str "cut"]).length≤5:=by
 cases en with
 | none=>exact⟨rfl,by show 1≤5;omega⟩
 | some e=>
  obtain⟨s,xs,e1,_,e3,e4⟩:=h e rfl
  exact⟨e3,e4⟩
section
variable {cR cF cC : Addr} {H H' H0 : Hp} {r ka ia sa : Addr} {ks : List Int} {cr : Int → Cr} {fas : List Fa} {s : Rs} {kfp : List Addr} {S : List Addr}
theorem RunX.offS (A:RunX cR cF cC H r ka ia sa ks cr fas s kfp) (o:OffA S H H') (h:∀ b∈S,b∉zas r ia sa fas∧b∉kfp∧b≠ka∧∀ xs,H b≠some (.tup xs)):RunX cR cF cC H' r ka ia sa ks cr fas s kfp:=
 A.frame (λb xs e=>o b _ (λz=>(h b z).2.2.2 xs e) e) (λb hb u e=>o b u (λz=>by
  rcases hb with w | w
  ·exact (h b z).1 w
  ·exact (h b z).2.1 w) e) λkvs e=>o ka _ (λz=>(h ka z).2.2.1 rfl) e
theorem RunX.ntup (A:RunX cR cF cC H r ka ia sa ks cr fas s kfp) (o:OffA (zas r ia sa fas) H H'):Tups H H':=λb xs e=>o b _ (λz=>by
 obtain⟨u,e',n1,_⟩:=A.has b z
 rw[e] at e'
 cases e'
 exact n1 xs rfl) e
end
theorem zmI {cr:Int→Cr}{ks ks':List Int}(h:∀ m,m∈ks↔m∈ks') (s:Rs):zci cr ks s=zci cr ks' s:=by
 unfold zci
 split
 ·rfl
 ·split
  ·rfl
  ·rename_i d _
   cases d <;> first | rfl | (unfold zcv;simp only[h])
theorem zlC {cr:Int→Cr}{ks ks':List Int}(h:∀ m,m∈ks↔m∈ks'):∀ (n:Nat) (s:Rs),goR cr ks n s=goR cr ks' n s
 | 0,s=>rfl
 | n+1,s=>by
  have e1:goR cr ks (n+1) s=if s.en=none then goR cr ks n (zci cr ks s) else s:=rfl
  have e2:goR cr ks' (n+1) s=if s.en=none then goR cr ks' n (zci cr ks' s) else s:=rfl
  rw[e1,e2,zmI h,zlC h n]
end My
namespace My
open PySem L2 PyProof.Rows
end My

namespace L2
open PySem PySem.Spec PySem.Calls PyProof.Rows PySem.W
variable {prog : Program} {w : World} {A : Around} {E : Value → Shared → Prop} {s : Shared}
theorem zgv {it t:Addr}{i:Nat}{ys:Array Value}{x:Value}{Q:Value→Shared→Prop}(hit:s.heap.IsTupleIter it t i) (ht:s.heap.IsTuple t ys) (hx:ys[i]?=some x)
  (q:∀ h',h'.IsTupleIter it t (i+1)→Heap.SameBut it s.heap h'→Q x {s with heap:=h'}):wpAny (model prog w) A (Builtin.SmallTypes.nextOf (.ref it)) Q E s:=by
 obtain⟨o,ho,hc,hd⟩:=id hit
 obtain⟨ol,hol,hcl,nl,hdl⟩:=id ht
 unfold Builtin.SmallTypes.nextOf
 refine wpAny_bind (wpAny_callSpecial?_slot hit.typeIs F.slot_tuple_iterator_next (wpAny_call_entry F.slot_tuple_iterator_next hit.typeIs F.entry_tuple_iterator_next ?_ (F.args_tuple_iterator_next_1 _)))
 obtain⟨_,_,data,_⟩:=o
 obtain⟨_,_,datal,_⟩:=ol
 dsimp only at hc hd hcl hdl
 subst hc hd hcl hdl
 wp_walk
 simp only[Int.toNat_natCast,hx]
 wp_walk
 refine⟨x,rfl,wpAny_pure (q _ ⟨_,Heap.get?_update_self _ ho rfl,rfl,?_⟩ (Heap.SameBut.update ..))⟩
 simp[Obj.mapFields,rawInt]
theorem zlD {it t:Addr}{i:Nat}{ys:Array Value}{Q:Value→Shared→Prop}(hh:A.handled=none) (hit:s.heap.IsTupleIter it t i) (ht:s.heap.IsTuple t ys) (hx:ys[i]?=none)
  (q:∀ h' e,Heap.ExtBut it s.heap h'→(∃ o,h'.get? e=some o∧o.cls=.type "StopIteration")→E (.ref e) {s with heap:=h'}):wpAny (model prog w) A (Builtin.SmallTypes.nextOf (.ref it)) Q E s:=by
 obtain⟨o,ho,hc,hd⟩:=id hit
 obtain⟨ol,hol,hcl,nl,hdl⟩:=id ht
 unfold Builtin.SmallTypes.nextOf
 refine wpAny_bind (wpAny_callSpecial?_slot hit.typeIs F.slot_tuple_iterator_next (wpAny_call_entry F.slot_tuple_iterator_next hit.typeIs F.entry_tuple_iterator_next ?_ (F.args_tuple_iterator_next_1 _)))
 obtain⟨_,_,data,_⟩:=o
 obtain⟨_,_,datal,_⟩:=ol
 dsimp only at hc hd hcl hdl
 subst hc hd hcl hdl
 wp_walk
 simp only[Int.toNat_natCast,hx]
 wp_walk
 have h1:A.in1.handled=none:=hh
 unfold raiseNew
 wp_walk
 exact q _ _ (((Heap.SameBut.update ..).extBut.push _).push _) ⟨_,Heap.get?_push_size _ rfl,rfl⟩
end L2

namespace L2
open PySem PySem.Spec PySem.Calls PyProof.Rows PySem.W
variable {prog : Program} {w : World} {A : Around} {E : Value → Shared → Prop} {s : Shared}
set_option maxHeartbeats 0 in
theorem zlE {z TI TO i1 i2 l1 l2:Addr}{k:Nat}{xs ys:Array Value}{x y a b:Value}{Q:Value→Shared→Prop}(D:ZipApart z TI TO i1 i2 l1 l2)
  (hz:IsZip s.heap z TI TO .none) (hI:IsPair s.heap TI (.ref i1) (.ref i2)) (hO:IsPair s.heap TO a b) (h1:s.heap.IsTupleIter i1 l1 k) (h2:s.heap.IsTupleIter i2 l2 k) (g1:s.heap.IsTuple l1 xs) (g2:s.heap.IsTuple l2 ys) (hx:xs[k]?=some x) (hy:ys[k]?=some y)
  (q:∀ h',IsZip h' z TI TO (rawInt s.heap.objs.size)→IsPair h' TO x y→h'.IsTupleIter i1 l1 (k+1)→h'.IsTupleIter i2 l2 (k+1)→IsPair h' s.heap.objs.size x y→h'.objs.size=s.heap.objs.size+1→(∀ c o,c≠z→c≠TO→c≠i1→c≠i2→s.heap.get? c=some o→h'.get? c=some o)→Q (.ref s.heap.objs.size) {s with heap:=h'}) :
  wpAny (model prog w) A (Builtin.«zip.__next__» ⟨[.ref z],[]⟩) (λfin s'=>∃ v,fin=.done (.ret v)∧Q v s') E s:=by
 wp_walk using zgv,wpAny_onRaise
 ·exact h1.extBut (Heap.SameBut.update ..).extBut D.i1z
 ·exact g1.extBut (Heap.SameBut.update ..).extBut D.l1z
 ·exact hx
 have e1:Heap.SameBut z s.heap (s.heap.update z (Obj.mapFields λx=>x.setIfInBounds 0 Value.ellipsis)):=Heap.SameBut.update ..
 have z1:IsZip (s.heap.update z (Obj.mapFields λx=>x.setIfInBounds 0 Value.ellipsis)) z TI TO .ellipsis:=Heap.get?_update_self _ hz rfl
 generalize s.heap.update z (Obj.mapFields λx=>x.setIfInBounds 0 Value.ellipsis)=H1 at *
 intro H2 j1 e2
 have O2:IsPair H2 TO a b:=e2.extBut _ _ D.TOi1 (e1.extBut _ _ D.TOz hO)
 wp_walk using zgv,wpAny_onRaise
 ·exact ((h2.extBut e1.extBut D.i2z).extBut e2.extBut D.i12.symm).extBut (Heap.SameBut.update ..).extBut D.TOi2.symm
 ·exact ((g2.extBut e1.extBut D.l2z).extBut e2.extBut D.l2i1).extBut (Heap.SameBut.update ..).extBut D.l2TO
 ·exact hy
 have e3:Heap.SameBut TO H2 (H2.update TO (Obj.mapSeq λx_1=>x_1.setIfInBounds 0 x)):=Heap.SameBut.update ..
 have O3:IsPair (H2.update TO (Obj.mapSeq λx_1=>x_1.setIfInBounds 0 x)) TO x b:=Heap.get?_update_self _ O2 rfl
 generalize H2.update TO (Obj.mapSeq λx_1=>x_1.setIfInBounds 0 x)=H3 at *
 intro H4 j2 e4
 have O4:IsPair H4 TO x b:=e4.extBut _ _ D.TOi2 O3
 have z4:IsZip H4 z TI TO .ellipsis:=e4.extBut _ _ D.i2z.symm (e3.extBut _ _ D.TOz.symm (e2.extBut _ _ D.i1z.symm z1))
 have zo:=D.TOz
 have zo':=D.TOz.symm
 wp_walk
 have e5:Heap.SameBut TO H4 (H4.update TO (Obj.mapSeq λx=>x.setIfInBounds (0+1) y)):=Heap.SameBut.update ..
 have O5:IsPair (H4.update TO (Obj.mapSeq λx=>x.setIfInBounds (0+1) y)) TO x y:=Heap.get?_update_self _ O4 rfl
 have z5:=e5.extBut _ _ zo' z4
 generalize H4.update TO (Obj.mapSeq λx=>x.setIfInBounds (0+1) y)=H5 at *
 have sz:H5.objs.size=s.heap.objs.size:=by rw[e5.1,e4.1,e3.1,e2.1,e1.1]
 have lz:=Heap.lt_size z5
 refine⟨_,rfl,?_⟩
 rw[sz]
 have e6:∀ c o,H5.get? c=some o→(H5.push {cls:=.type "tuple",data:=.seq #[x,y]}).get? c=some o:=λc o e=>Heap.get?_push_of_some _ e
 have p6:IsPair (H5.push {cls:=.type "tuple",data:=.seq #[x,y]}) s.heap.objs.size x y:=by rw[←sz];exact Heap.get?_push_size _ rfl
 have s6:(H5.push {cls:=.type "tuple",data:=.seq #[x,y]}).objs.size=s.heap.objs.size+1:=by rw[Heap.size_push,sz]
 have z6:=e6 _ _ z5
 have st:(H5.push {cls:=Value.type "tuple",data:=Data.seq ((λ(x:Array Value)=>x.setIfInBounds (0+1) y) #[x,b]).toList.toArray})=H5.push {cls:=.type "tuple",data:=.seq #[x,y]}:=rfl
 rw[st]
 generalize H5.push {cls:=.type "tuple",data:=.seq #[x,y]}=H6 at *
 have e7:Heap.SameBut z H6 (H6.update z (Obj.mapFields λx=>x.setIfInBounds 0 (rawInt s.heap.objs.size))):=Heap.SameBut.update ..
 have z7:IsZip (H6.update z (Obj.mapFields λx=>x.setIfInBounds 0 (rawInt s.heap.objs.size))) z TI TO (rawInt s.heap.objs.size):=Heap.get?_update_self _ z6 rfl
 generalize H6.update z (Obj.mapFields λx=>x.setIfInBounds 0 (rawInt s.heap.objs.size))=H7 at *
 have e8:Heap.SameBut z H7 (H7.update z (Obj.mapFields λx=>x.setIfInBounds 1 (Value.bool false))):=Heap.SameBut.update ..
 have z8:IsZip (H7.update z (Obj.mapFields λx=>x.setIfInBounds 1 (Value.bool false))) z TI TO (rawInt s.heap.objs.size):=Heap.get?_update_self _ z7 rfl
 generalize H7.update z (Obj.mapFields λx=>x.setIfInBounds 1 (Value.bool false))=H8 at *
 have up:∀ c o,c≠z→H5.get? c=some o→H8.get? c=some o:=λc o n e=>e8.extBut _ _ n (e7.extBut _ _ n (e6 c o e))
 have keep:∀ c o,c≠z→c≠TO→c≠i1→c≠i2→s.heap.get? c=some o→H8.get? c=some o:=λc o n1 n2 n3 n4 e=>up c o n1 (e5.extBut _ _ n2 (e4.extBut _ _ n4 (e3.extBut _ _ n2 (e2.extBut _ _ n3 (e1.extBut _ _ n1 e)))))
 have nz:s.heap.objs.size≠z:=λh=>by have l:=lz;rw[sz,h] at l;exact Nat.lt_irrefl _ l
 obtain⟨o1,a1,b1⟩:=j1
 obtain⟨o2,a2,b2⟩:=j2
 exact q H8 z8 (up _ _ D.TOz O5) ⟨o1,up _ _ D.i1z (e5.extBut _ _ D.TOi1.symm (e4.extBut _ _ D.i12 (e3.extBut _ _ D.TOi1.symm a1))),b1⟩ ⟨o2,up _ _ D.i2z (e5.extBut _ _ D.TOi2.symm a2),b2⟩ (e8.extBut _ _ nz (e7.extBut _ _ nz p6)) (by rw[e8.1,e7.1,s6]) keep
end L2

namespace L2
open PySem PySem.Spec PySem.Calls PyProof.Rows PySem.W
variable {prog : Program} {w : World} {A : Around} {E : Value → Shared → Prop} {s : Shared}
set_option maxHeartbeats 0 in
theorem zmJ {z TI TO i1 i2 l1 l2:Addr}{k:Nat}{xs:Array Value}{a b:Value}{Q:Fin→Shared→Prop}(hh:A.handled=none) (D:ZipApart z TI TO i1 i2 l1 l2)
  (hz:IsZip s.heap z TI TO .none) (hI:IsPair s.heap TI (.ref i1) (.ref i2)) (hO:IsPair s.heap TO a b) (h1:s.heap.IsTupleIter i1 l1 k) (g1:s.heap.IsTuple l1 xs) (hx:xs[k]?=none)
  (q:∀ h' e,(∀ c o,c≠z→c≠TO→c≠i1→c≠i2→s.heap.get? c=some o→h'.get? c=some o)→(∃ o,h'.get? e=some o∧o.cls=.type "StopIteration")→E (.ref e) {s with heap:=h'}) :
  wpAny (model prog w) A (Builtin.«zip.__next__» ⟨[.ref z],[]⟩) Q E s:=by
 wp_walk using zlD hh,wpAny_onRaise
 ·exact h1.extBut (Heap.SameBut.update ..).extBut D.i1z
 ·exact g1.extBut (Heap.SameBut.update ..).extBut D.l1z
 ·exact hx
 have e1:Heap.SameBut z s.heap (s.heap.update z (Obj.mapFields λx=>x.setIfInBounds 0 Value.ellipsis)):=Heap.SameBut.update ..
 have z1:IsZip (s.heap.update z (Obj.mapFields λx=>x.setIfInBounds 0 Value.ellipsis)) z TI TO .ellipsis:=Heap.get?_update_self _ hz rfl
 generalize s.heap.update z (Obj.mapFields λx=>x.setIfInBounds 0 Value.ellipsis)=H1 at *
 intro H2 e x2 ⟨oe,he,hc⟩
 have z2:=x2 _ _ D.i1z.symm z1
 have nz:e≠z:=λy=>by subst y;rw[z2] at he;cases he;simp at hc
 wp_walk
 exact q _ e (λc o n1 n2 n3 n4 y=>(Heap.SameBut.update ..).extBut _ _ n1 (x2 _ _ n3 (e1.extBut _ _ n1 y))) ⟨oe,(Heap.SameBut.update ..).extBut _ _ nz he,hc⟩
end L2

namespace L2
open PySem PySem.Spec PySem.Calls PyProof.Rows PySem.W
section
variable {prog : Program} {w : World} {A : Around} {E : Value → Shared → Prop} {s : Shared}
theorem zp7 {z TI TO i1 i2 l1 l2:Addr}{k:Nat}{xs ys:Array Value}{x y a b:Value}{Q:Option Value→Shared→Prop}(D:ZipApart z TI TO i1 i2 l1 l2)
  (hz:IsZip s.heap z TI TO .none) (hI:IsPair s.heap TI (.ref i1) (.ref i2)) (hO:IsPair s.heap TO a b) (h1:s.heap.IsTupleIter i1 l1 k) (h2:s.heap.IsTupleIter i2 l2 k) (g1:s.heap.IsTuple l1 xs) (g2:s.heap.IsTuple l2 ys) (hx:xs[k]?=some x) (hy:ys[k]?=some y)
  (q:∀ h',IsZip h' z TI TO (rawInt s.heap.objs.size)→IsPair h' TO x y→h'.IsTupleIter i1 l1 (k+1)→h'.IsTupleIter i2 l2 (k+1)→IsPair h' s.heap.objs.size x y→h'.objs.size=s.heap.objs.size+1→(∀ c o,c≠z→c≠TO→c≠i1→c≠i2→s.heap.get? c=some o→h'.get? c=some o)→Q (some (.ref s.heap.objs.size)) {s with heap:=h'}) :
  wpAny (model prog w) A (pyNext (.ref z)) Q E s:=by
 have ty:s.TypeIs (.ref z) "zip":=⟨_,hz,rfl⟩
 unfold pyNext
 refine wpAny_bind (wpAny_attempt (wpAny_callSpecial?_slot ty F.slot_zip_next (wpAny_call_entry F.slot_zip_next ty F.entry_zip_next ?_ (F.args_zip_next_1 _))))
 exact zlE D hz hI hO h1 h2 g1 g2 hx hy λh' a1 a2 a3 a4 a5 a6 a7=>wpAny_pure (q h' a1 a2 a3 a4 a5 a6 a7)
theorem zke {z TI TO i1 i2 l1 l2:Addr}{k:Nat}{xs:Array Value}{a b:Value}{Q:Option Value→Shared→Prop}(hh:A.handled=none) (D:ZipApart z TI TO i1 i2 l1 l2)
  (hz:IsZip s.heap z TI TO .none) (hI:IsPair s.heap TI (.ref i1) (.ref i2)) (hO:IsPair s.heap TO a b) (h1:s.heap.IsTupleIter i1 l1 k) (g1:s.heap.IsTuple l1 xs) (hx:xs[k]?=none)
  (q:∀ h',(∀ c o,c≠z→c≠TO→c≠i1→c≠i2→s.heap.get? c=some o→h'.get? c=some o)→Q none {s with heap:=h'}):wpAny (model prog w) A (pyNext (.ref z)) Q E s:=by
 have ty:s.TypeIs (.ref z) "zip":=⟨_,hz,rfl⟩
 unfold pyNext
 refine wpAny_bind (wpAny_attempt (wpAny_callSpecial?_slot ty F.slot_zip_next (wpAny_call_entry F.slot_zip_next ty F.entry_zip_next ?_ (F.args_zip_next_1 _))))
 refine zmJ hh D hz hI hO h1 g1 hx λh' e hk he=>?_
 obtain⟨o,ho,hc⟩:=he
 exact wpAny_bind (wpAny_isInstance (T:="StopIteration") (b:=true) ⟨o,ho,hc⟩ isSubtype_stop (wpAny_pure (q _ hk)))
end
abbrev zt1 (h:Heap) (a:Addr):Heap:=h.push {cls:=.type "tuple_iterator",data:=.fields #[.ref a,.int 0 0]}
abbrev zt2 (h:Heap) (a b:Addr):Heap:=zt1 (zt1 h a) b
abbrev zt3 (h:Heap) (a b:Addr):Heap:=(zt2 h a b).push {cls:=.type "tuple",data:=.seq #[.ref h.objs.size,.ref (zt1 h a).objs.size]}
abbrev zt4 (h:Heap) (a b:Addr):Heap:=(zt3 h a b).push {cls:=.type "tuple",data:=.seq #[.none,.none]}
abbrev zt5 (h:Heap) (a b:Addr):Heap:=(zt4 h a b).push {cls:=.type "zip",data:=.fields #[.none,.bool false,.bool false,.ref (zt2 h a b).objs.size,.ref (zt3 h a b).objs.size]}
theorem newZT (a b:Addr) (xs ys:Array Value):Meets (Builtin.«zip.__new__» ⟨[.type "zip",.ref a,.ref b],[]⟩) (λ_ R s=>s.heap.IsTuple a xs∧s.heap.IsTuple b ys∧R (.ok (.ret (.ref (zt4 s.heap a b).objs.size))) {s with heap:=zt5 s.heap a b}):=
 .of_wp λprog w A R s h=>by
  obtain⟨hp,g,d,tk,os⟩:=s
  obtain⟨h1,h2,h⟩:=h
  have hsub:=sub_zip
  have H1:Heap.IsTuple (Shared.heap ⟨hp,g,d,tk,os⟩) a xs:=h1
  have H2:Heap.IsTuple (Shared.heap ⟨zt1 hp a,g,d,tk,os⟩) b ys:=Heap.IsTuple.push h2 _
  wp_walk using wpAny_pyIter_tuple H1,wpAny_pyIter_tuple H2
  exact⟨_,rfl,h⟩
end L2

namespace L2
open PySem PySem.Spec PySem.Calls PyProof.Rows PySem.W
section
variable {prog : Program} {w : World} {A : Around} {E : Value → Shared → Prop} {s : Shared}
theorem zlF {l1 l2:Addr}{xs ys:Array Value}{Q:Value→Shared→Prop}(hl1:s.heap.IsTuple l1 xs) (hl2:s.heap.IsTuple l2 ys)
  (h:∀ h',IsZip h' (s.heap.objs.size+4) (s.heap.objs.size+2) (s.heap.objs.size+3) .none→IsPair h' (s.heap.objs.size+2) (.ref s.heap.objs.size) (.ref (s.heap.objs.size+1))→IsPair h' (s.heap.objs.size+3) .none .none→h'.IsTupleIter s.heap.objs.size l1 0→h'.IsTupleIter (s.heap.objs.size+1) l2 0→
   (∀ c o,s.heap.get? c=some o→h'.get? c=some o)→Q (.ref (s.heap.objs.size+4)) {s with heap:=h'}) :
  wpAny (model prog w) A (call (.type "zip") [.ref l1,.ref l2]) Q E s:=by
 refine callType_new F.called_zip (by decide) (F.typeCall_zip_2 _ _) (F.newCall_zip_2 _ _) (λobj=>F.args_object_init_3 obj _ _) F.entry_zip_new (newZT l1 l2 xs ys) ⟨hl1,hl2,?_⟩
 have z1:(zt1 s.heap l1).objs.size=s.heap.objs.size+1:=Heap.size_push ..
 have z2:(zt2 s.heap l1 l2).objs.size=s.heap.objs.size+2:=by rw[Heap.size_push,z1]
 have z3:(zt3 s.heap l1 l2).objs.size=s.heap.objs.size+3:=by rw[Heap.size_push,z2]
 have z4:(zt4 s.heap l1 l2).objs.size=s.heap.objs.size+4:=by rw[Heap.size_push,z3]
 have g5:(zt5 s.heap l1 l2).get? (zt4 s.heap l1 l2).objs.size=some _:=Heap.get?_push_size _ rfl
 have g4:(zt5 s.heap l1 l2).get? (zt3 s.heap l1 l2).objs.size=some _:=Heap.get?_push_of_some _ (Heap.get?_push_size _ rfl)
 have g3:(zt5 s.heap l1 l2).get? (zt2 s.heap l1 l2).objs.size=some _:=Heap.get?_push_of_some _ (Heap.get?_push_of_some _ (Heap.get?_push_size _ rfl))
 have g2:(zt5 s.heap l1 l2).get? (zt1 s.heap l1).objs.size=some _:=Heap.get?_push_of_some _ (Heap.get?_push_of_some _ (Heap.get?_push_of_some _ (Heap.get?_push_size _ rfl)))
 have g1:(zt5 s.heap l1 l2).get? s.heap.objs.size=some _:=Heap.get?_push_of_some _ (Heap.get?_push_of_some _ (Heap.get?_push_of_some _ (Heap.get?_push_of_some _ (Heap.get?_push_size _ rfl))))
 show _∧_
 rw[z2,z3,z4] at g5
 rw[z1,z2] at g3
 rw[z3] at g4
 rw[z1] at g2
 rw[z4]
 exact⟨⟨_,g5,rfl⟩,h _ g5 g3 g4 ⟨_,g1,rfl,rfl⟩ ⟨_,g2,rfl,rfl⟩ λc o e=>Heap.get?_push_of_some _ (Heap.get?_push_of_some _ (Heap.get?_push_of_some _ (Heap.get?_push_of_some _ (Heap.get?_push_of_some _ e))))⟩
end
def ItzT (a b:Addr):It:=
  ⟨λi H=>∃ xs ys x y,H a=some (.tup xs)∧H b=some (.tup ys)∧xs[i]?=some x∧ys[i]?=some y,
   λi H v H'=>∃ T,H T=none∧v=.ref T∧∀ xs ys x y,H a=some (.tup xs)→H b=some (.tup ys)→xs[i]?=some x→ys[i]?=some y→H'=upd H T (.tup [x,y]),
   λi H=>∃ xs ys,H a=some (.tup xs)∧H b=some (.tup ys)∧xs[i]?=none⟩
def zp8 (z TI TO i1 i2 a b:Addr) (i:Nat) (h:Heap):Prop:=IsZip h z TI TO .none∧IsPair h TI (.ref i1) (.ref i2)∧(∃ p q,IsPair h TO p q)∧h.IsTupleIter i1 a i∧h.IsTupleIter i2 b i
theorem zdL {X:Cx}{pins:List (Addr × Obj)}{H:Hp}{a c:Addr}{o:HO}(e:H a=some o) (f:FpOk X pins H c):a≠c:=λz=>by
 rw[z,f.1] at e;cases e
theorem zlG {P:Program}{w:World}{K:Fg}{elts:List Expr}{kx:Nat}{tpos:Pos}{z TI TO i1 i2:Addr}(a b:Addr) (D:Zap z TI TO i1 i2) :
  Turn P w K (.Tuple elts kx tpos) (ItzT a b) [z,TI,TO,i1,i2] z (zp8 z TI TO i1 i2 a b) where
 mem:=by simp
 obj:=λi h st c hb=>by
  obtain⟨hz,hI,⟨p,q,hO⟩,⟨o1,e1,c1,d1⟩,⟨o2,e2,c2,d2⟩⟩:=st
  simp only[List.mem_cons,List.not_mem_nil,or_false] at hb
  rcases hb with rfl | rfl | rfl | rfl | rfl
  ·exact⟨_,hz,λv x=>by cases x⟩
  ·exact⟨_,hI,λv x=>by cases x⟩
  ·exact⟨_,hO,λv x=>by cases x⟩
  ·exact⟨_,e1,λv x=>by rw[d1] at x;cases x⟩
  ·exact⟨_,e2,λv x=>by rw[d2] at x;cases x⟩
 keep:=λi h h' st k=>by
  obtain⟨hz,hI,⟨p,q,hO⟩,h1,h2⟩:=st
  exact⟨k z (by simp) _ hz,k TI (by simp) _ hI,⟨p,q,k TO (by simp) _ hO⟩,h1.at λo e=>k i1 (by simp) o e,h2.at λo e=>k i2 (by simp) o e⟩
 item:=by
  intro X hP hw hK hc i pins s σ H E I hf st hg
  subst hP hw hK
  obtain⟨xs,ys,x,y,hx,hy,ex,ey⟩:=hg
  obtain⟨its,rx,px,zx⟩:=I.tuple (SqT.of hx)
  obtain⟨jts,ry,py,zy⟩:=I.tuple (SqT.of hy)
  obtain⟨u,eu,ru⟩:=rx.get ex
  obtain⟨v,ev,rv⟩:=ry.get ey
  have f1:=hf z (by simp)
  have f2:=hf TI (by simp)
  have f3:=hf TO (by simp)
  have f4:=hf i1 (by simp)
  have f5:=hf i2 (by simp)
  have Z:ZipApart z TI TO i1 i2 a b:=⟨D.a1,D.a2,D.a3,D.a4,D.a5,D.a6,D.a7,D.a8,D.a9,D.a10,zdL hx f1,zdL hx f3,zdL hx f4,zdL hx f5,zdL hy f1,zdL hy f3,zdL hy f4,zdL hy f5⟩
  obtain⟨hz,hI,⟨p,q,hO⟩,h1,h2⟩:=id st
  refine zp7 Z hz hI hO h1 h2 (show s.heap.IsTuple a its.toArray from px) (show s.heap.IsTuple b jts.toArray from py) (x:=u) (y:=v) (by simpa using eu) (by simpa using ev) λh' z1 o1 l1 l2 t1 sz k1=>?_
  refine⟨_,rfl,wpAny_letOwnedTupleGo_zip (s:={s with heap:=h'}) z1 λh'' z2 sb=>?_⟩
  have nT:H s.heap.objs.size=none:=I.hok.fresh (Nat.le_refl _)
  have IT:Inv X pins σ (upd H s.heap.objs.size (.tup [x,y])) {s with heap:=s.heap.push {cls:=.type "tuple",data:=.seq #[u,v]},toks:=s.toks}:=
   I.laid (λb o e=>Heap.get?_push_of_some _ e) (Nat.le_refl _) (show zbr X.prog X.w _ _ _ (.tup [x,y]) from ⟨by show 2≤sizeLine;decide,[u,v],.cons ru (.cons rv .nil),IsTup.new _ _⟩)
  have fT:∀ c∈[z,TI,TO,i1,i2],FpOk X pins (upd H s.heap.objs.size (.tup [x,y])) c:=λc hcm=>by
   obtain⟨g0,gr⟩:=hf c hcm
   refine⟨?_,gr⟩
   obtain⟨o,ho,_⟩:∃ o,s.heap.get? c=some o∧True:=by
    simp only[List.mem_cons,List.not_mem_nil,or_false] at hcm
    rcases hcm with rfl | rfl | rfl | rfl | rfl
    ·exact⟨_,hz,trivial⟩
    ·exact⟨_,hI,trivial⟩
    ·exact⟨_,hO,trivial⟩
    ·obtain⟨o,e,_⟩:=h1;exact⟨o,e,trivial⟩
    ·obtain⟨o,e,_⟩:=h2;exact⟨o,e,trivial⟩
   rw[zaj (Nat.ne_of_lt (Heap.lt_size ho))]
   exact g0
  have up:∀ c o,c∉[z,TI,TO,i1,i2]→(s.heap.push {cls:=.type "tuple",data:=.seq #[u,v]}).get? c=some o→h''.get? c=some o:=λc o hn e=>by
   simp only[List.mem_cons,List.not_mem_nil,or_false,not_or] at hn
   refine sb.extBut c o hn.1 ?_
   by_cases hcs:c=s.heap.objs.size
   ·subst hcs
    rw[Heap.get?_push_size _ rfl] at e
    cases e
    exact t1
   ·refine k1 c o hn.1 hn.2.2.1 hn.2.2.2.1 hn.2.2.2.2 ?_
    rw[Heap.get?_push_ne _ _ _ hcs] at e
    exact e
  refine⟨.ref s.heap.objs.size,_,IT.turnedN (h':=h'') (t':=s.toks) fT up,rfl,⟨_,nT,rfl,λxs' ys' x' y' q1 q2 q3 q4=>?_⟩,?_,λc hcm=>(fT c hcm).1⟩
  ·rw[hx] at q1;rw[hy] at q2
   cases q1;cases q2
   rw[ex] at q3;rw[ey] at q4
   cases q3;cases q4;rfl
  ·refine⟨z2,sb.extBut _ _ D.a1 (k1 _ _ D.a1 D.a5 D.a6 D.a7 hI),⟨_,_,sb.extBut _ _ D.a2 o1⟩,l1.at λo e=>sb.extBut _ _ D.a3 e,l2.at λo e=>sb.extBut _ _ D.a4 e⟩
 done:=by
  intro X hP hw hK hc i pins s σ H E I hf st hg
  subst hP hw hK
  obtain⟨xs,ys,hx,hy,en⟩:=hg
  obtain⟨its,rx,px,zx⟩:=I.tuple (SqT.of hx)
  have f1:=hf z (by simp)
  have f3:=hf TO (by simp)
  have f4:=hf i1 (by simp)
  have f5:=hf i2 (by simp)
  have Z:ZipApart z TI TO i1 i2 a b:=⟨D.a1,D.a2,D.a3,D.a4,D.a5,D.a6,D.a7,D.a8,D.a9,D.a10,zdL hx f1,zdL hx f3,zdL hx f4,zdL hx f5,zdL hy f1,zdL hy f3,zdL hy f4,zdL hy f5⟩
  obtain⟨hz,hI,⟨p,q,hO⟩,h1,h2⟩:=id st
  exact zke (I.ok.hd hc) Z hz hI hO h1 (show s.heap.IsTuple a its.toArray from px) (by simpa using rx.none_of en) λh' k1=>⟨rfl,I.turnedN (t':=s.toks) hf λc o hn e=>by
   simp only[List.mem_cons,List.not_mem_nil,or_false,not_or] at hn
   exact k1 c o hn.1 hn.2.2.1 hn.2.2.2.1 hn.2.2.2.2 e⟩
 self:=λ_ _ _ _ _ st h=>wpAny_pyIter_zip st.1 h
def zp9 (ta:TA):TI:=λσ H R=>ta σ H λvs H1=>∃ a b,vs=[.ref a,.ref b]∧(∃ xs,H1 a=some (.tup xs))∧(∃ ys,H1 b=some (.tup ys))∧R (ItzT a b) H1
theorem zqa {t:TA}{σ:St}{H:Hp}{R:It→Hp→Prop}(h:t σ H λvs H1=>∃ a b,vs=[.ref a,.ref b]∧(∃ xs,H1 a=some (.tup xs))∧(∃ ys,H1 b=some (.tup ys))∧R (ItzT a b) H1):zp9 t σ H R:=h
section
variable {X : Cx}
theorem zou {elts:List Expr}{kx:Nat}{tpos:Pos}{a b:Expr}{ta:TA}{p pos:Pos}(hg:Gl X "zip") (hm:X.mg "zip"=none) (ha:PA X [a,b] ta) (hs:starEach [a,b] X.env=[(false,eval a X.env),(false,eval b X.env)]:=by rfl) (hs2:starEach [b] X.env=[(false,eval b X.env)]:=by rfl) :
  PI X (.Tuple elts kx tpos) (.Call (.Name "zip" p) [a,b] [] pos) (zp9 ta):=by
 intro pins s σ H R I h
 refine Call_ (zfc I hg hm zjg (PyProof.Rows.callWith_type1 (thn (ha pos pins s σ H _ I h) λus s1 ⟨vs,H1,I1,r1,q1⟩=>?_) (by rw[hs,hs2]) (by rw[hs2];rfl)))
 obtain⟨l1,l2,e,⟨xs,hx⟩,⟨ys,hy⟩,q⟩:=q1
 subst e
 obtain⟨u,v,e,ru,rv⟩:=r1.two
 subst e
 cases ru;cases rv
 obtain⟨its,rx,px,zx⟩:=I1.tuple (SqT.of hx)
 obtain⟨jts,ry,py,zy⟩:=I1.tuple (SqT.of hy)
 refine zlF (show s1.heap.IsTuple l1 its.toArray from px) (show s1.heap.IsTuple l2 jts.toArray from py) λh' z1 p1 p2 i1 i2 k=>?_
 refine wpAny_pyIter_zip (s:={s1 with heap:=h'}) z1 ?_
 have I2:Inv X pins σ H1 {s1 with heap:=h',toks:=s1.toks}:=I1.kept k
 have D:=zk3 s1.heap.objs.size
 refine⟨_,_,_,_,H1,rfl,I2,zlG l1 l2 D,⟨z1,p1,⟨_,_,p2⟩,i1,i2⟩,λc hc=>?_,q⟩
 have le:s1.heap.objs.size≤c:=by
  simp only[List.mem_cons,List.not_mem_nil,or_false] at hc
  rcases hc with rfl | rfl | rfl | rfl | rfl <;> first | exact Nat.le_refl _ | exact Nat.le_add_right _ _
 exact I1.fpOk le (I1.hok.fresh le)
end
theorem zlH {a b:Addr}{xs ys:List V}{H1:Hp}(h:H1 a=some (.tup xs)) (h2:H1 b=some (.tup ys)) (hn:xs.length=ys.length) :
  Goes (ItzT a b) H1 xs.length (λi v H=>∃ T x y,v=.ref T∧H T=some (.tup [x,y])∧xs[i]?=some x∧ys[i]?=some y) where
 go:=λi H hi e=>⟨xs,ys,xs[i],ys[i]'(by omega),e _ _ h,e _ _ h2,by simp,by simp⟩
 stop:=λH e=>⟨xs,ys,e _ _ h,e _ _ h2,by simp⟩
 yld:=λi H x H' hi e q=>by
  obtain⟨T,nT,rfl,q⟩:=q
  have i2:i<ys.length:=by omega
  have:=q xs ys xs[i] ys[i] (e _ _ h) (e _ _ h2) (by simp) (by simp)
  subst this
  exact⟨zah nT _,T,_,_,rfl,zad,by simp,by simp⟩
end L2

namespace My
open L2 PySem
end My

namespace My
open L2 PySem
structure Two (cR cF cC:Addr) (H:Hp) (r ka ia sa:Addr) (nn:List Int) (fasR:List Fa) (kfp:List Addr) (da ra sk:Addr) (ks:List Int) (fasL:List Fa) (lfp:List Addr) (fa:Addr) (fv:List V) (cr:Int→Cr) (sR sL:Rs):Prop where
 run:RunX cR cF cC H r ka ia sa nn cr fasR sR kfp
 law:LawX H da ra sk ks cr fasL sL.st sL.ins lfp
 fl:H fa=some (.lst fv)
 ap1:∀ b∈zas r ia sa fasR,b∉ownL ra sk fasL∧b∉lfp∧b≠fa
 ap2:∀ b∈ownL ra sk fasL,b∉kfp∧b≠fa
section
variable {cR cF cC : Addr} {H H' : Hp} {r ka ia sa : Addr} {nn : List Int} {fasR fasR' : List Fa} {kfp : List Addr} {da ra sk : Addr} {ks : List Int} {fasL fasL' : List Fa} {lfp : List Addr} {fa : Addr} {fv : List V} {cr : Int → Cr} {sR sR' sL sL' : Rs}
theorem Two.same (A:Two cR cF cC H r ka ia sa nn fasR kfp da ra sk ks fasL lfp fa fv cr sR sL) (e:Same H H'):Two cR cF cC H' r ka ia sa nn fasR kfp da ra sk ks fasL lfp fa fv cr sR sL:=
 ⟨A.run.same e,A.law.same e,e _ _ A.fl,A.ap1,A.ap2⟩
theorem Two.moveL (A:Two cR cF cC H r ka ia sa nn fasR kfp da ra sk ks fasL lfp fa fv cr sR sL) (m:zaq (ownL ra sk fasL) H (ownL ra sk fasL') H') (B:LawX H' da ra sk ks cr fasL' sL'.st sL'.ins lfp):Two cR cF cC H' r ka ia sa nn fasR kfp da ra sk ks fasL' lfp fa fv cr sR sL':=by
 have nf:∀ b∈ownL ra sk fasL',b∈ownL ra sk fasL∨H b=none:=m.2.1
 refine⟨A.run.offS m.1 λb hb=>?_,B,m.1 _ _ (λz=>(A.ap2 _ z).2 rfl) A.fl,λb hb=>⟨λz=>?_,(A.ap1 b hb).2⟩,λb hb=>?_⟩
 ·obtain⟨xs,e⟩:=A.law.own b hb
  refine⟨λz=>(A.ap1 b z).1 hb,(A.ap2 b hb).1,λz=>?_,λys z=>by rw[e] at z;cases z⟩
  obtain⟨kvs,ek,_⟩:=A.run.kn.d
  rw[←z,e] at ek;cases ek
 ·rcases nf b z with w | w
  ·exact (A.ap1 b hb).1 w
  ·obtain⟨o,e,_⟩:=A.run.has b hb
   rw[w] at e;cases e
 ·rcases nf b hb with w | w
  ·exact A.ap2 b w
  ·refine⟨λz=>?_,λz=>by rw[z,A.fl] at w;cases w⟩
   obtain⟨o,e⟩:=A.run.kn.has b z
   rw[w] at e;cases e
theorem Two.moveR (A:Two cR cF cC H r ka ia sa nn fasR kfp da ra sk ks fasL lfp fa fv cr sR sL) (m:zaq (zas r ia sa fasR) H (zas r ia sa fasR') H') (B:RunX cR cF cC H' r ka ia sa nn cr fasR' sR' kfp):Two cR cF cC H' r ka ia sa nn fasR' kfp da ra sk ks fasL lfp fa fv cr sR' sL:=by
 refine⟨B,A.law.frame (A.run.ntup m.1) (λb hb o e=>m.1 b o (λz=>?_) e) (λkvs e=>m.1 _ _ (λz=>?_) e),m.1 _ _ (λz=>(A.ap1 _ z).2.2 rfl) A.fl,λb hb=>?_,A.ap2⟩
 ·rcases hb with w | w
  ·exact (A.ap1 b z).1 w
  ·exact (A.ap1 b z).2.1 w
 ·obtain⟨o,e',_,n2⟩:=A.run.has _ z
  rw[e] at e';cases e'
  exact n2 kvs rfl
 ·rcases m.2.1 b hb with w | w
  ·exact A.ap1 b w
  ·refine⟨λz=>?_,λz=>?_,λz=>by rw[z,A.fl] at w;cases w⟩
   ·obtain⟨xs,e⟩:=A.law.own b z
    rw[w] at e;cases e
   ·obtain⟨o,e⟩:=A.law.has b z
    rw[w] at e;cases e
end
end My

namespace My
open L2 PySem
def PF (H:Hp) (pa:Addr) (c:Cr) (fp:List Addr):Prop:=RepF H (crD c) (.ref pa) fp∧fp.Nodup
theorem PF.out {H:Hp}{pa:Addr}{c:Cr}{fp:List Addr}(h:PF H pa c fp):∃ v1 v2 b3 v4 dvs f1 f2 f3 f4,H pa=some (.lst [v1,v2,.ref b3,v4])∧fp=pa::(f1++(f2++((b3::f3)++f4)))∧RepF H (zaG c.needs) v1 f1∧RepF H (zaG c.leaves) v2 f2∧H b3=some (.lst dvs)∧zak H (c.deeds.map toD) dvs f3∧RepF H (.lst (c.notes.map zaG)) v4 f4:=by
 obtain⟨h,_⟩:=h
 unfold crD RepF at h
 obtain⟨a,xs,r,e,rfl,ha,hx⟩:=h
 cases e
 obtain⟨x1,x2,x3,x4,g1,g2,g3,g4,rfl,_⟩:=zhx hx
 obtain⟨f1,f2,f3,f4,rfl,h1,h2,h3,h4⟩:=zak.out4 hx
 unfold RepF at h3
 obtain⟨b3,dvs,r3,rfl,rfl,hb3,hd⟩:=h3
 exact⟨x1,x2,b3,x4,dvs,f1,f2,r3,f4,ha,rfl,h1,h2,hb3,hd,h4⟩
theorem RepF.sm {H H':Hp}{d:D}{v:V}{f:List Addr}(s:Same H H') (h:RepF H d v f):RepF H' d v f:=RepF.frame s.tups d (λa ha=>by
 obtain⟨o,e⟩:=RepF.has d h a ha
 rw[e,s _ _ e]) h
theorem RepF.ud {H:Hp}{d:D}{v:V}{f:List Addr}{b:Addr}{o:HO}{ys:List V}(hb:H b=some (.lst ys)) (n:b∉f) (h:RepF H d v f):RepF (upd H b o) d v f:=RepF.frame (zbC hb) d (λa ha=>zaj (λz=>n (by rw[←z];exact ha))) h
section
variable {H H' : Hp} {pa b3 : Addr} {c : Cr} {v1 v2 v4 : V} {dvs : List V} {f1 f2 f3 f4 : List Addr}
end
def crP (ns:List Int) (start count:Int):Cr:=⟨zfv ns start,zew ns start,zeg ns start count,zdo ns start count⟩
theorem crP_D (ns:List Int) (start count:Int):crD (crP ns start count)=zlq ns start count:=by
 unfold crD crP zlq
 rw[zj4]
theorem ziR {c:Int}{zero:List Int} : ∀ l∈zb5 c zero,l.length=9:=λl hl=>by
 unfold zb5 at hl
 obtain⟨k,_,rfl⟩:=zmm.mp hl
 exact zbQ _ _
theorem zez {c:Int}{zero:List Int} : (zb5 c zero).length≤3:=by
 unfold zb5
 have:=zcR (c:=c) (k:=20) (m:=3) (by decide)
 simp;omega
theorem zqb {ns:List Int}{start count:Int}(h1:1≤count) (h8:count≤8):(crP ns start count).Rt:=by
 have e1:(zb5 (cell ns start) [0,1,2,3,6,7]).length≤3:=zez
 have e2:(zb5 (cell ns (start+1)) [0,1,2,3]).length≤3:=zez
 refine⟨⟨λl hl=>ziR l hl,λl hl=>ziR l hl,λd hd=>?_,λls hl=>?_,?_,?_,?_,?_⟩,zj5 h1 h8⟩
 ·obtain⟨k,_,rfl⟩:=zmm.mp (show d∈zeg ns start count from hd)
  exact ziD _ _
 ·obtain⟨k,_,rfl⟩:=zmm.mp (show ls∈zdo ns start count from hl)
  exact⟨Nat.le_trans zez (by decide),λl hl=>ziR l hl⟩
 ·show (zfv ns start).length≤100
  unfold zfv;omega
 ·show (zew ns start).length≤100
  unfold zew;omega
 ·show (zeg ns start count).length≤100
  unfold zeg;simp;omega
 ·show (zdo ns start count).length≤100
  unfold zdo;simp;omega
theorem Cr.Rt.noNeeds {c:Cr}(r:c.Rt):({c with needs:=[]} : Cr).Rt:=by
 refine⟨⟨λl hl=>(by cases hl),r.nine.l9,r.nine.d9,r.nine.o9,Nat.zero_le _,r.nine.l,r.nine.d,r.nine.o⟩,?_⟩
 have rr:zbW c.needs c.leaves c.deeds c.notes=true:=r.r
 show zbW [] c.leaves c.deeds c.notes=true
 unfold zbW zeN at rr ⊢
 simp only[Bool.and_eq_true] at rr ⊢
 refine⟨⟨?_,rr.1.2⟩,rr.2⟩
 rfl
end My

set_option compiler.extract_closed false
set_option maxHeartbeats 8000000
open PySem.W (mg_of nsIn findIn mg_none_of isFn keepIn excIn fnOf codeIn kia_one makesIn)
local macro_rules | `(tactic| walk_at "gs1") => `(tactic| first
  | (with_reducible first | refine L2.i_asg ?_ | refine L2.znZ ?_ | refine L2.i_ret ?_ | refine L2.zpt ?_ | refine L2.zpu ?_ | refine L2.i_ifK fun T kT U kU => ?_ | refine L2.i_if ?_ | refine L2.zpq ?_ | refine L2.i_B ?_ | refine L2.i_bl ?_ | refine L2.iteT ?_ | refine L2.iteF ?_ | refine L2.iteNT ?_ | refine L2.iteNF ?_ | refine L2.zmn ?_ | refine L2.i_bm ?_ | refine L2.i_bm0 ?_ | refine L2.zpE ?_ | refine L2.i_fld ?_ | refine L2.zpF ?_ | refine L2.zn5 ?_ | refine L2.zpv ?_ | refine L2.i_orV ?_ | refine L2.zpw ?_ | refine L2.i_and ?_ | refine L2.i_or ?_ | refine L2.i_not ?_ | refine L2.i_for ?_ | refine L2.zpx ?_ | refine L2.zn0 ?_ | refine L2.zpy ?_ | refine L2.i_zip ?_ | refine L2.zpz ?_ | refine L2.i_rev ?_ | refine L2.zpA ?_ | refine L2.i_rng2 ?_ | refine L2.i_sl ?_ | refine L2.zmo ?_ | refine L2.zpB ?_ | refine L2.zn1 ?_ | refine L2.i_par ?_ | refine L2.i_parv ?_ | refine L2.zpC ?_ | refine L2.i_c ?_ | refine L2.i_dget2 ?_ | refine L2.zpQ ?_ | refine L2.zoc ?_ | refine L2.zmy ?_ | refine L2.i_op ?_ | refine L2.i_un ?_ | refine L2.zpr ?_ | refine L2.i_nil ?_ | refine L2.zps ?_ | refine L2.i_callx ?_ | refine L2.i_fs ?_ | refine L2.zod ?_ | refine L2.i_din ?_ | refine L2.zmx ?_ | refine L2.zpR ?_ | refine L2.i_dpop ?_ | refine L2.zpT ?_ | refine L2.zog ?_ | refine L2.zpV ?_ | refine L2.i_tru ?_ | refine L2.i_CB ?_ | refine L2.i_lst ?_ | refine L2.i_tup ?_ | refine L2.i_rI0 ?_ | refine L2.i_rU ?_ | refine L2.znX ?_ | refine L2.zpp ?_ | refine L2.i_neI ?_ | refine L2.i_eqB ?_ | refine L2.i_neB ?_ | refine L2.i_eqS ?_ | refine L2.i_neS ?_)
  | ((with_reducible refine L2.ze5 ?_ ?_); focus (first | exact Or.inl ⟨by omega, by omega⟩ | exact Or.inr ⟨by omega, by omega⟩))
  | ((with_reducible refine L2.i_mod ?_ ?_); focus omega)
  | ((with_reducible refine L2.zpo ?_ ?_ ?_); (focus omega); (focus omega))
  | ((with_reducible refine L2.i_pow ?_ ?_ ?_ ?_); (focus decide); (focus decide); (focus decide))
  | ((with_reducible refine L2.zpn (v := ?_) ?_ ?_); rotate_left; focus rfl)
  | with_reducible refine L2.goOn (by assumption) ?_)
local macro_rules | `(tactic| walk_at "go1") => `(tactic| first | with_reducible refine L2.zno fun NX kN => ?_ | walk_at "gs1" | (refine L2.zpn (by rfl) ?_))
local macro_rules | `(tactic| walk_at "gs") => `(tactic| repeat (walk_at "gs1"))
local macro_rules | `(tactic| nofun) => `(tactic| walk_at "gs")
local macro_rules | `(tactic| walk_at "go") => `(tactic| repeat (walk_at "go1"))
local macro_rules | `(tactic| ac_rfl) => `(tactic| walk_at "go")
local macro_rules | `(tactic| walk_at "sc") => `(tactic| exact ⟨rfl, rfl, rfl, by decide +kernel, rfl, by decide +kernel, by decide +kernel⟩)
local macro_rules | `(tactic| walk_at "q") => `(tactic| ((try with_reducible refine L2.goOn (by assumption) ?_); with_reducible refine L2.zno fun NX kN => ?_))
local macro_rules | `(tactic| walk_at "sm") => `(tactic| first | exact L2.sl rfl | exact L2.zaC (by simp))
namespace My
open PySem L2 PyProof.Rows
section
open PySem PySem.Spec PySem.Calls PyProof.Rows PySem.W L2
theorem bA {K:Fg}(hA:((zBoo K).all id,zSee K)=(true,zSig)) (j:Nat) {b:Bool}(h:(zBoo K)[j]?=some b):b=true:=List.all_eq_true.mp (Prod.mk.inj hA).1 b (zmg h)
theorem eA {K:Fg}(hA:((zBoo K).all id,zSee K)=(true,zSig)) (j:Nat) {α:Type} [BEq α] [LawfulBEq α] {x y:α}(h:(zBoo K)[j]?=some (x == y)):x=y:=eq_of_beq (bA hA j h)
def fA {K:Fg}(hA:((zBoo K).all id,zSee K)=(true,zSig)) (i j:Nat) (a:Addr) (n q:Str) (d:Stmt) (h1:(zSee K)[i]?=some (L2.zaM K a)) (h2:zSig[i]?=some (gS n q d)) (h3:(zBoo K)[j]?=some (L2.zap K a q)):=L2.zpZ (n:=n) (ps:=zcW d) (b:=zb7 d) (sc:=zai d) (Option.some.inj (h1.symm.trans ((congrArg (λl:List (Option L2.Sig)=>l[i]?) (Prod.mk.inj hA).2).trans h2))) (bA hA j h3)
end
theorem zem:FSc ["line","numbers","total","factor","number"] ["line","numbers"] (zai Q0):=by walk_at "sc"
theorem zmK:FSc ["line","numbers"] ["line","numbers"] (zai Q3):=by walk_at "sc"
theorem zeA:FSc ["self","number","asked"] ["self","number","asked"] (zai Q5):=by walk_at "sc"
theorem zeU:FSc ["self"] ["self"] (zai Q7):=by walk_at "sc"
theorem zfF:FSc ["self","hall","number","given","inputs"] ["self","hall","number","given","inputs"] (zai Qa):=by walk_at "sc"
theorem zhT:FSc ["self","fuel"] ["self","fuel"] (zai Qc):=by walk_at "sc"
theorem zhU:FSc ["self"] ["self"] (zai Qe):=by walk_at "sc"
theorem zgR:FSc ["self"] ["self"] (zai Q11):=by walk_at "sc"
theorem zcs:FSc ["self","frame","deed","kind","given"] ["self"] (zai Q14):=by walk_at "sc"
theorem zgw:FSc ["self","hand","number","frame"] ["self","hand","number"] (zai Q16):=by walk_at "sc"
theorem zfG:FSc ["self","hand","low","high","drawn"] ["self","hand","low","high"] (zai Q19):=by walk_at "sc"
theorem zfH:FSc ["self","line","frame"] ["self","line"] (zai Q1b):=by walk_at "sc"
theorem ziS:FSc ["self","number","given"] ["self","number","given"] (zai Q1d):=by walk_at "sc"
theorem zhV:FSc ["self","number","given"] ["self","number","given"] (zai Q1f):=by walk_at "sc"
theorem zdQ:FSc ["self","place","frame"] ["self","place"] (zai Q22):=by walk_at "sc"
theorem zbx:FSc ["self","frame"] ["self"] (zai Q25):=by walk_at "sc"
theorem zcU:FSc ["self","frame"] ["self"] (zai Q28):=by walk_at "sc"
theorem zeP:FSc ["self","frame"] ["self"] (zai Q2b):=by walk_at "sc"
theorem zd4:FSc ["self","left_0","left_1","frame","taken"] ["self","left_0","left_1"] (zai Q2e):=by walk_at "sc"
theorem zfI:FSc ["self","frame"] ["self","frame"] (zai Q30):=by walk_at "sc"
theorem zdw:FSc ["self","word","lines","numbers","unmet","frame"] ["self","word","lines","numbers"] (zai Q33):=by walk_at "sc"
theorem zcK:FSc ["lines","numbers","spot","line"] ["lines","numbers"] (zai Q36):=by walk_at "sc"
theorem zeV:FSc ["asked"] ["asked"] (zai Q39):=by walk_at "sc"
theorem zeB:FSc ["self","needs","leaves","deeds","notes"] ["self","needs","leaves","deeds","notes"] (zai Q3c):=by walk_at "sc"
theorem zfJ:FSc ["lines"] ["lines"] (zai Q3e):=by walk_at "sc"
theorem zf3:FSc ["deed"] ["deed"] (zai Q41):=by walk_at "sc"
theorem zfK:FSc ["craft"] ["craft"] (zai Q44):=by walk_at "sc"
theorem zhW:FSc ["craft"] ["craft"] (zai Q47):=by walk_at "sc"
theorem zmL:FSc ["craft"] ["craft"] (zai Q4a):=by walk_at "sc"
theorem zen:FSc ["craft","needs_right"] ["craft"] (zai Q4c):=by walk_at "sc"
theorem zdR:FSc ["deeds","count"] ["deeds"] (zai Q4f):=by walk_at "sc"
theorem zdS:FSc ["craft","as_many"] ["craft"] (zai Q52):=by walk_at "sc"
theorem zf4:FSc ["lines","nought_spots"] ["lines","nought_spots"] (zai Q55):=by walk_at "sc"
theorem zeo:FSc ["line","nought_spots","small"] ["line","nought_spots"] (zai Q58):=by walk_at "sc"
theorem zep:FSc ["deed","last_place","kind"] ["deed","last_place"] (zai Q5b):=by walk_at "sc"
theorem zf5:FSc ["low","high"] ["low","high"] (zai Q5e):=by walk_at "sc"
theorem zeq:FSc ["number","given","taken","hands"] ["number","given","taken"] (zai Q61):=by walk_at "sc"
theorem zer:FSc ["hands"] ["hands"] (zai Q64):=by walk_at "sc"
theorem zgS:FSc ["hand"] ["hand"] (zai Q67):=by walk_at "sc"
theorem zfL:FSc ["number"] ["number"] (zai Q69):=by walk_at "sc"
theorem zkf:FSc ["low","number","high"] ["low","number","high"] (zai Q6b):=by walk_at "sc"
theorem zeW:FSc ["self"] ["self"] (zai Q6e):=by walk_at "sc"
theorem ziT:FSc ["self","number","craft"] ["self","number","craft"] (zai Q70):=by walk_at "sc"
theorem zeX:FSc ["self"] ["self"] (zai Q72):=by walk_at "sc"
theorem zcL:FSc ["self","told","number"] ["self"] (zai Q75):=by walk_at "sc"
theorem zeC:FSc ["self","number"] ["self","number"] (zai Q78):=by walk_at "sc"
theorem zfM:FSc ["self","number"] ["self","number"] (zai Q7b):=by walk_at "sc"
theorem zbS:FSc ["self","number","caller"] ["self","number"] (zai Q7e):=by walk_at "sc"
theorem zhX:FSc ["craft","other"] ["craft","other"] (zai Q81):=by walk_at "sc"
theorem zhY:FSc ["script","k"] ["script","k"] (zai Q84):=by walk_at "sc"
theorem zmM:FSc ["cell","k","many"] ["cell","k","many"] (zai Q87):=by walk_at "sc"
theorem zfN:FSc ["cell","k","kind"] ["cell","k"] (zai Q8a):=by walk_at "sc"
theorem zdx:FSc ["cell","zero","line","k"] ["cell","zero"] (zai Q8d):=by walk_at "sc"
theorem zbK:FSc ["cell","count","line","hand","kind","low","given"] ["cell","count"] (zai Q90):=by walk_at "sc"
theorem zgT:FSc ["cell","zero"] ["cell","zero"] (zai Q93):=by walk_at "sc"
theorem zbT:FSc ["script","start","count","needs","leaves","deeds","notes"] ["script","start","count"] (zai Q96):=by walk_at "sc"
theorem zkg:FSc ["found"] ["found"] (zai Q99):=by walk_at "sc"
theorem zdH:FSc ["line","numbers","total","k"] ["line","numbers"] (zai Q9a):=by walk_at "sc"
theorem zdc:FSc ["lines","numbers","place"] ["lines","numbers"] (zai Q9c):=by walk_at "sc"
theorem zhZ:FSc ["frame"] ["frame"] (zai Q9f):=by walk_at "sc"
theorem zbj:FSc ["crafts","stack","number","place","hands","asked","parts","wrong","under","taken"] ["crafts","stack"] (zai Qa2):=by walk_at "sc"
theorem zh0:FSc ["crafts","stack","number","asked"] ["crafts","stack","number","asked"] (zai Qa5):=by walk_at "sc"
theorem zc6:FSc ["crafts","stack","deed","frame","asked","wrong"] ["crafts","stack","deed"] (zai Qa8):=by walk_at "sc"
theorem zbL:FSc ["crafts","stack","rest","frame","deed","ahead","found"] ["crafts","stack","rest"] (zai Qaa):=by walk_at "sc"
theorem zeD:FSc ["found","due","mine","other"] ["found","due"] (zai Qad):=by walk_at "sc"
theorem zfO:FSc ["run","ending","stack","made","due","found"] ["run","ending","stack","made"] (zai Qaf):=by walk_at "sc"
theorem zdy:FSc ["hall","number","given","kind","e"] ["hall","number","given","kind"] (zai Qb1):=by walk_at "sc"
theorem zct:FSc ["script","count","parts"] ["script"] (zai s_l_parts_here):=by walk_at "sc"
theorem zbX:FSc ["script","parts","number","hall","given","far","rest","mine","run","crafts","stack","ending","made","turn","fuel","step"] ["script"] (zai s_law):=by walk_at "sc"
structure Bl (K:Fg) (mg:Str→Option Value):Prop where
 all:mg "all"=none
 bool:mg "bool"=none
 enumerate:mg "enumerate"=none
 int:mg "int"=none
 isinstance:mg "isinstance"=none
 len:mg "len"=none
 list:mg "list"=none
 max:mg "max"=none
 range:mg "range"=none
 sorted:mg "sorted"=none
 tuple:mg "tuple"=none
 zip:mg "zip"=none
 c_NUMBERS:∃ t,mg "NUMBERS"=some (.int 9 t)
 c_FACTORS:∃ t,mg "FACTORS"=some (.int 8 t)
 c_MOST_FRAMES:∃ t,mg "MOST_FRAMES"=some (.int 20 t)
 c_MOST_LINES:∃ t,mg "MOST_LINES"=some (.int 2 t)
 c_MOST_DEEDS:∃ t,mg "MOST_DEEDS"=some (.int 8 t)
 c_LAST_HAND:∃ t,mg "LAST_HAND"=some (.int 3 t)
 c_LAST_NUMBER:∃ t,mg "LAST_NUMBER"=some (.int 99 t)
 c_GREATEST_BY:∃ t,mg "GREATEST_BY"=some (.int 1000 t)
 c_GREATEST:∃ t,mg "GREATEST"=some (.int 1000000000 t)
 c_ASKED_0:∃ t,mg "ASKED_0"=some (.int 4 t)
 c_ASKED_1:∃ t,mg "ASKED_1"=some (.int 5 t)
 c_NEW_0:∃ t,mg "NEW_0"=some (.int 6 t)
 c_NEW_1:∃ t,mg "NEW_1"=some (.int 7 t)
 t_HAND_SPOTS:∃ a,mg "HAND_SPOTS"=some (.ref a)∧∀ H,SqT K H a [.int 1,.int 2,.int 3,.int 4]
 t_LEFT_SPOTS:∃ a,mg "LEFT_SPOTS"=some (.ref a)∧∀ H,SqT K H a [.int 7,.int 8]
 t_LEFT_AS_HANDS:∃ a,mg "LEFT_AS_HANDS"=some (.ref a)∧∀ H,SqT K H a [.int 0,.int 1,.int 2,.int 3,.int 4,.int 5,.int 0,.int 1]
 t_WHOLES:∃ a,mg "WHOLES"=some (.ref a)∧∀ H,SqT K H a [.int 1,.int 2,.int 3,.int 4]
structure Zt (K:Fg) (mg:Str→Option Value) (C:Nat→Addr):Prop where
 e_HallError:Err K (C 0) zba
 m_HallError:mg "HallError"=some (.ref (C 0))
 e_BadSheet:Err K (C 1) (.ref (C 0)::zba)
 m_BadSheet:mg "BadSheet"=some (.ref (C 1))
 e_NoCraft:Err K (C 2) (.ref (C 0)::zba)
 m_NoCraft:mg "NoCraft"=some (.ref (C 2))
 e_Unmet:Err K (C 3) (.ref (C 0)::zba)
 m_Unmet:mg "Unmet"=some (.ref (C 3))
 e_Unfit:Err K (C 4) (.ref (C 0)::zba)
 m_Unfit:mg "Unfit"=some (.ref (C 4))
 c_Frame:Cls K (C 5)
 m_Frame:mg "Frame"=some (.ref (C 5))
 n_Frame_number:zbA K (C 5) "number"
 n_Frame_place:zbA K (C 5) "place"
 n_Frame_hands:zbA K (C 5) "hands"
 n_Frame_asked:zbA K (C 5) "asked"
 c_Run:Cls K (C 6)
 m_Run:mg "Run"=some (.ref (C 6))
 n_Run_known:zbA K (C 6) "known"
 n_Run_inputs_left:zbA K (C 6) "inputs_left"
 n_Run_stack:zbA K (C 6) "stack"
 n_Run_steps_done:zbA K (C 6) "steps_done"
 n_Run_ending:zbA K (C 6) "ending"
 c_Craft:Cls K (C 7)
 m_Craft:mg "Craft"=some (.ref (C 7))
 n_Craft_needs:zbA K (C 7) "needs"
 n_Craft_leaves:zbA K (C 7) "leaves"
 n_Craft_deeds:zbA K (C 7) "deeds"
 n_Craft_notes:zbA K (C 7) "notes"
 c_Hall:Cls K (C 8)
 m_Hall:mg "Hall"=some (.ref (C 8))
 n_Hall_laid:zbA K (C 8) "laid"
 n_Hall_vouched:zbA K (C 8) "vouched"
 ne_NoCraft_Unfit:C 2≠C 4
 ne_HallError_Unfit:C 0≠C 4
section
variable {P : Program} {w : World} {K : Fg} {mg : Str → Option Value} {base : Heap}
inductive Q3f (K:Fg) (vs:List V) (H:Hp) (Q:VK) (E:XK):Prop
 | mk (a:Addr) (ls:List (List Int)):vs=[.ref a]→Rep K H (zaG ls) (.ref a)→ls.length≤1000→(∀ v H',Same H H'→New H H' (zaG ls) v→Q v H')→Q3f K vs H Q E
theorem zfP {f:Addr}{fd:FuncData}(B:Bl K mg) {C:Nat→Addr}(Z:Zt K mg C)  (F:Fun K "copied_lines" "copied_lines" Q3e f fd) (m:mg "copied_lines"=some (.ref f)):Fn P w K mg base "copied_lines" ["lines"] 1 (Q3f K):=by
 refine Fn.of (k:=0) F zfJ m (λ_ _ _ _ _ _ us hl=>match us,hl with | [_],_=>rfl) (λvs H Q E h=>?_) (λcdv A outer s H vs Q E hr h=>?_)
 ·first
  | (obtain⟨_,_,rfl,_⟩:=h;rfl)
 obtain⟨a,ls,rfl,hA,hl,q⟩:=h
 refine⟨_,(zag (zar (zbE rfl (COk.m (sc0:=zai Q3e) (N:=["lines"]) (N':=["lines","line"]) (ms:=[false,true])) (zbO K (pv 0)) (λ_ _ _ _ _=>(zaK (i:=1) (ndS (N:=["lines","line"])) rfl (Or.inl rfl))) (λ_ _ _ _ _=>za0) (λ_ _ _ _ _=>(zcl (zhr K) rfl B.list L2.zb4 (zac (pv 1) zab)))))),?_⟩
 unfold zaG Rep at hA
 obtain⟨a',xs,e,hA,hx⟩:=hA
 cases e
 have lx:=hx.length
 rw[zlm] at lx
 ac_rfl
 refine⟨a,rfl,⟨_,hA⟩,?_⟩
 refine za8 (zbh hA) (ls.map nums) (by rw[zlm];omega) (zaC (by omega)) (λj x' d H4 R hj hd s4 hx' hR=>?_) (λv H4 s4 n4=>?_)
 ·obtain⟨d2,hd2,hrx⟩:=Reps.get' hx hx'
  rw[hd2] at hd;cases hd
  rw[zgm] at hd2
  obtain⟨l,hl,rfl⟩:=zme.mp hd2
  obtain⟨xa,rfl,hxa⟩:=zcf.mp (Rep.same s4 _ hrx)
  ac_rfl
  refine zeb (.inl hxa) λp hp=>?_
  exact hR _ _ (zah hp _) (New.iif.mpr ⟨p,rfl,hp,zad⟩)
 exact q _ _ s4 n4
inductive Q42 (K:Fg) (vs:List V) (H:Hp) (Q:VK) (E:XK):Prop
 | mk (v:V) (d:D):vs=[v]→zc0 H d v→(∀ v' H',Same H H'→New H H' d v'→Q v' H')→Q42 K vs H Q E
theorem zf6 {f:Addr}{fd:FuncData}(B:Bl K mg) {C:Nat→Addr}(Z:Zt K mg C)  (F:Fun K "copied_deed" "copied_deed" Q41 f fd) (m:mg "copied_deed"=some (.ref f)):Fn P w K mg base "copied_deed" ["deed"] 1 (Q42 K):=by
 refine Fn.of (k:=0) F zf3 m (λ_ _ _ _ _ _ us hl=>match us,hl with | [_],_=>rfl) (λvs H Q E h=>?_) (λcdv A outer s H vs Q E hr h=>?_)
 ·first
  | (obtain⟨_,_,rfl,_⟩:=h;rfl)
 obtain⟨v,d,rfl,hd,q⟩:=h
 refine⟨_,(zag (zar (zcl (zn2 K) rfl B.tuple L2.zgo (zd0 (zbE rfl (COk.m (sc0:=zai Q41) (N:=["deed"]) (N':=["deed","part"]) (ms:=[false,true])) (zlb K (pv 0)) (λ_ _ _ _ _=>(zaK (i:=1) (ndS (N:=["deed","part"])) rfl (Or.inl rfl))) (λ_ _ _ _ _=>za0) (λ_ _ _ _ _=>(zdz (zb2 (zaH (zhs K) rfl B.isinstance L2.zaS (zac (pv 1) (zac (zde (v:=.ty "list") rfl B.list L2.zb4 rfl) zab)))) (zcl (zhr K) rfl B.list L2.zb4 (zac (pv 1) zab)) (pv 1)))) zab)))),?_⟩
 obtain⟨t,xs,ds,rfl,rfl,ht,hl,h8,hp⟩:=hd
 ac_rfl
 refine⟨t,rfl,⟨_,SqT.of ht⟩,?_⟩
 refine za8 (zgJ (SqT.of ht)) ds hl (zaC (by omega)) (λj x d H1 R hj hd s1 hx hR=>?_) (λv H1 s1 n1=>?_)
 ·have part:=(hp j d x hd hx).sq s1.sq
  ac_rfl
  rcases part with ⟨i,rfl,rfl⟩ | ⟨i,rfl,rfl⟩ | ⟨b,l,rfl,rfl,hb⟩ | ⟨b,i,k,rfl,rfl,hb⟩
  ·refine zea (.int i) zhv ?_
   ac_rfl
   exact hR _ _ (Same.refl _) New.int
  ·refine zea (.str i) zhw ?_
   ac_rfl
   exact hR _ _ (Same.refl _) New.str
  ·refine zea (.lst hb) zdD ?_
   ac_rfl
   refine zeb (.inl (SqL.of hb)) λp hp'=>?_
   exact hR _ _ (zah hp' _) (New.iif.mpr ⟨p,rfl,hp',zad⟩)
  ·refine zea (.tup hb) zfZ ?_
   ac_rfl
   exact hR _ _ (Same.refl _) ⟨[],RepF.pair hb,List.nodup_nil,λ_ m=>by cases m⟩
 obtain⟨la,vs,rfl,la0,la1,fp,f1,f2,f3⟩:=New.news n1
 ac_rfl
 refine zmr (SqL.of la1) λp hp'=>?_
 have s2:=zah hp' (.tup vs)
 exact q _ _ (s1.trans s2) (New.tup (zak.sq s2.sq ds f1) f2 f3 zad)
inductive Q3d (K:Fg) (C:Nat→Addr) (vs:List V) (H:Hp) (Q:VK) (E:XK):Prop
 | mk (p dx:Addr) (v1 v2 v3 v4:V) (needs leaves:List (List Int)) (deeds:List D) (notes:List (List (List Int))) (a3 a4:Addr) (dvs nvs:List V):vs=[.ref p,v1,v2,v3,v4]→H p=some (.ins (C 7) dx [])→Rep K H (zaG needs) v1→Rep K H (zaG leaves) v2→v3=.ref a3→SqL K H a3 dvs→v4=.ref a4→SqL K H a4 nvs→needs.length≤1000→leaves.length≤1000→deeds.length≤1000→notes.length≤1000→deeds.length=dvs.length→notes.length=nvs.length→(∀ (i:Nat) d x,deeds[i]?=some d→dvs[i]?=some x→zc0 H d x)→(∀ (i:Nat) ls x,notes[i]?=some ls→nvs[i]?=some x→ls.length≤1000∧Rep K H (zaG ls) x)→(∀ H' w1 w2 w3 w4,(∀ b o,H b=some o→b≠p→H' b=some o)→H' p=some (.ins (C 7) dx (flds w1 w2 w3 w4))→News H H' (zlt needs leaves deeds notes) [w1,w2,w3,w4]→Q .non H')→Q3d K C vs H Q E
theorem zmN {f:Addr}{fd:FuncData}(B:Bl K mg) {C:Nat→Addr}(Z:Zt K mg C) (Q40:Fn P w K mg base "copied_lines" ["lines"] 1 (Q3f K)) (Q43:Fn P w K mg base "copied_deed" ["deed"] 1 (Q42 K)) (F:Fun K "__init__" "Craft.__init__" Q3c f fd) (M:Mk K (C 7) f):Mkr P w K mg base "Craft" (C 7) ["self","needs","leaves","deeds","notes"] 2 (Q3d K C):=by
 refine⟨f,fd,M,F.ok (k:=1) zeB (λvs H Q E h=>?_) (λcdv A outer s H vs Q E hr h=>?_),F.binds λ_ _ _ _ _ _ us hl=>match us,hl with | [_,_,_,_,_],_=>rfl,Z.m_Craft⟩
 ·first
  | (obtain⟨_,_,_,_,_,_,_,_,_,_,_,_,_,_,rfl,_⟩:=h;rfl)
 obtain⟨p,dx,v1,v2,v3,v4,needs,leaves,deeds,notes,a3,a4,dvs,nvs,rfl,hp,r1,r2,rfl,h3,rfl,h4,l1,l2,l3,l4,e3,e4,dr,nr,q⟩:=h
 refine⟨_,(zae (zbk (pv 0) (zat Q40 hr rfl (zac (pv 1) zab)) rfl)
   (zae (zbk (pv 0) (zat Q40 hr rfl (zac (pv 2) zab)) rfl)
   (zae (zbk (pv 0) (zbE rfl (COk.m (sc0:=zai Q3c) (N:=["self","needs","leaves","deeds","notes"]) (N':=["self","needs","leaves","deeds","notes","deed"]) (ms:=[false,false,false,false,false,true])) (zbO K (pv 3)) (λ_ _ _ _ _=>(zaK (i:=5) (ndS (N:=["self","needs","leaves","deeds","notes","deed"])) rfl (Or.inl rfl))) (λ_ _ _ _ _=>za0) (λ_ _ _ _ _=>(zat Q43 hr rfl (zac (pv 5) zab)))) rfl)
   (zag (zbk (pv 0) (zbE rfl (COk.m (sc0:=zai Q3c) (N:=["self","needs","leaves","deeds","notes"]) (N':=["self","needs","leaves","deeds","notes","lines"]) (ms:=[false,false,false,false,false,true])) (zbO K (pv 4)) (λ_ _ _ _ _=>(zaK (i:=5) (ndS (N:=["self","needs","leaves","deeds","notes","lines"])) rfl (Or.inl rfl))) (λ_ _ _ _ _=>za0) (λ_ _ _ _ _=>(zat Q40 hr rfl (zac (pv 5) zab)))) rfl))))),?_⟩
 obtain⟨b1,rfl⟩:∃ b,v1=.ref b:=by unfold zaG Rep at r1;obtain⟨a,_,e,_⟩:=r1;exact⟨a,e⟩
 obtain⟨b2,rfl⟩:∃ b,v2=.ref b:=by unfold zaG Rep at r2;obtain⟨a,_,e,_⟩:=r2;exact⟨a,e⟩
 ac_rfl
 -- self.needs
 refine⟨b1,needs,rfl,r1,l1,λw1 H1 s1 n1=>?_⟩
 ac_rfl
 refine⟨p,(C 7),dx,[],rfl,s1 _ _ hp,Z.c_Craft,Z.n_Craft_needs,by show 0<1000;decide,?_⟩
 have k1:Sq H (upd H1 p (.ins (C 7) dx (putF "needs" w1 []))):=s1.sq.trans (zdO (s1 _ _ hp) rfl)
 have u1:News H (upd H1 p (.ins (C 7) dx (putF "needs" w1 []))) [zaG needs] [w1]:=(News.nil.snoc' (H:=H) (H1:=H) (Same.refl H).fr s1 n1).sq (zdO (s1 _ _ hp) rfl)
 have f1:Free H (upd H1 p (.ins (C 7) dx (putF "needs" w1 []))):=s1.fr.trans zcz
 -- self.leaves
 ac_rfl
 refine⟨b2,leaves,rfl,Rep.sq k1 _ r2,l2,λw2 H2 s2 n2=>?_⟩
 have p2:=s2 _ _ (zad (H:=H1) (a:=p) (o:=.ins (C 7) dx (putF "needs" w1 [])))
 ac_rfl
 refine⟨p,(C 7),dx,_,rfl,p2,Z.c_Craft,Z.n_Craft_leaves,Nat.lt_of_lt_of_le (zaU (n:=1) (by decide)) (by decide),?_⟩
 have k2:=k1.trans (s2.sq.trans (zdO (o:=.ins (C 7) dx (putF "leaves" w2 (putF "needs" w1 []))) p2 rfl))
 have u2:=(u1.snoc' f1 s2 n2).sq (zdO (o:=.ins (C 7) dx (putF "leaves" w2 (putF "needs" w1 []))) p2 rfl)
 have f2:Free H (upd H2 p (.ins (C 7) dx (putF "leaves" w2 (putF "needs" w1 [])))):=f1.trans (s2.fr.trans zcz)
 -- self.deeds
 ac_rfl
 refine⟨a3,rfl,⟨_,k2.lst h3⟩,?_⟩
 refine za8 (zbh (k2.lst h3)) deeds e3 (zaC (by omega)) (λj x d H3 R hj hd s3 hx hR=>?_) (λw3 H3 s3 n3=>?_)
 ·ac_rfl
  refine⟨x,d,rfl,(dr j d x hd hx).sq (k2.trans s3.sq),λv' H4 s4 n4=>?_⟩
  exact hR _ _ s4 n4
 have p3:=s3 _ _ (zad (H:=H2) (a:=p) (o:=.ins (C 7) dx (putF "leaves" w2 (putF "needs" w1 []))))
 ac_rfl
 refine⟨p,(C 7),dx,_,rfl,p3,Z.c_Craft,Z.n_Craft_deeds,Nat.lt_of_lt_of_le (zaU (n:=2) (zaU (n:=1) (by decide))) (by decide),?_⟩
 have k3:=k2.trans (s3.sq.trans (zdO (o:=.ins (C 7) dx (putF "deeds" w3 (putF "leaves" w2 (putF "needs" w1 [])))) p3 rfl))
 have u3:=(u2.snoc' f2 s3 n3).sq (zdO (o:=.ins (C 7) dx (putF "deeds" w3 (putF "leaves" w2 (putF "needs" w1 [])))) p3 rfl)
 have f3:Free H (upd H3 p (.ins (C 7) dx (putF "deeds" w3 (putF "leaves" w2 (putF "needs" w1 []))))):=f2.trans (s3.fr.trans zcz)
 -- self.notes
 ac_rfl
 refine⟨a4,rfl,⟨_,k3.lst h4⟩,?_⟩
 refine za8 (zbh (k3.lst h4)) (notes.map zaG) (by rw[zlm];exact e4) (zaC (by omega)) (λj x d H4 R hj hd s4 hx hR=>?_) (λw4 H4 s4 n4=>?_)
 ·rw[zgm] at hd
  obtain⟨ls,hls,rfl⟩:=zme.mp hd
  obtain⟨hz,hr2⟩:=nr j ls x hls hx
  have hr3:=Rep.sq (k3.trans s4.sq) _ hr2
  obtain⟨b,rfl⟩:∃ b,x=.ref b:=by unfold zaG Rep at hr3;obtain⟨a,_,e,_⟩:=hr3;exact⟨a,e⟩
  ac_rfl
  refine⟨b,ls,rfl,hr3,hz,λv' H5 s5 n5=>?_⟩
  exact hR _ _ s5 n5
 have p4:=s4 _ _ (zad (H:=H3) (a:=p) (o:=.ins (C 7) dx (putF "deeds" w3 (putF "leaves" w2 (putF "needs" w1 [])))))
 ac_rfl
 refine⟨p,(C 7),dx,_,rfl,p4,Z.c_Craft,Z.n_Craft_notes,Nat.lt_of_lt_of_le (zaU (n:=3) (zaU (n:=2) (zaU (n:=1) (by decide)))) (by decide),?_⟩
 have u4:=(u3.snoc' f3 s4 n4).sq (zdO (o:=.ins (C 7) dx (putF "notes" w4 (putF "deeds" w3 (putF "leaves" w2 (putF "needs" w1 []))))) p4 rfl)
 refine q _ w1 w2 w3 w4 (λb o e hb=>?_) zad u4
 rw[zaj hb]
 refine s4 _ _ ?_
 rw[zaj hb]
 refine s3 _ _ ?_
 rw[zaj hb]
 refine s2 _ _ ?_
 rw[zaj hb]
 exact s1 _ _ e
def MulOk (fs ns:List Int):Prop:=∀ (i:Nat) (f n:Int),fs[i]?=some f→ns[i]?=some n→CMul f n
def spW (K:Fg) (R:Int→V):Sp:=λvs H Q _=>∃ (a b:Addr) (c:Int) (fs ns:List Int),vs=[.ref a,.ref b]∧SqL K H a ((c::fs).map V.int)∧SqL K H b (ns.map V.int)∧fs.length=8∧ns.length=8∧MulOk fs ns∧
 ∀ H',Same H H'→Q (R (c+dot fs ns)) H'
def ze8 (K:Fg):Sp:=spW K .int
theorem zmO {f:Addr}{fd:FuncData}(B:Bl K mg) {C:Nat→Addr}(Z:Zt K mg C)  (F:Fun K "worth" "worth" Q0 f fd) (m:mg "worth"=some (.ref f)):Fn P w K mg base "worth" ["line","numbers"] 1 (ze8 K):=by
 refine Fn.of (k:=0) F zem m (λ_ _ _ _ _ _ us hl=>match us,hl with | [_,_],_=>rfl) (λvs H Q E h=>?_) (λcdv A outer s H vs Q E hr h=>?_)
 ·first
  | (obtain⟨rfl,_⟩:=h;rfl)
  | (obtain⟨_,rfl,_⟩:=h;rfl)
  | (obtain⟨_,_,rfl,_⟩:=h;rfl)
  | (obtain⟨_,_,_,rfl,_⟩:=h;rfl)
  | (obtain⟨_,_,_,_,rfl,_⟩:=h;rfl)
  | (obtain⟨_,_,_,_,_,rfl,_⟩:=h;rfl)
  | (obtain⟨_,_,_,_,_,_,rfl,_⟩:=h;rfl)
  | (obtain⟨_,_,_,_,_,_,_,rfl,_⟩:=h;rfl)
  | (obtain⟨_,_,_,_,_,_,_,_,rfl,_⟩:=h;rfl)
  | (obtain⟨_,_,_,_,_,_,_,_,_,rfl,_⟩:=h;rfl)
  | (obtain⟨_,_,_,_,_,_,_,_,_,_,rfl,_⟩:=h;rfl)
  | (obtain⟨_,_,_,_,_,_,_,_,_,_,_,rfl,_⟩:=h;rfl)
  | (obtain⟨_,_,_,_,_,_,_,_,_,_,_,_,rfl,_⟩:=h;rfl)
  | (obtain⟨_,_,_,_,_,_,_,_,_,_,_,_,_,rfl,_⟩:=h;rfl)
  | (obtain⟨_,_,_,_,_,_,_,_,_,_,_,_,_,_,rfl,_⟩:=h;rfl)
  | (obtain⟨_,_,_,_,_,_,_,_,_,_,_,_,_,_,_,rfl,_⟩:=h;rfl)
  | (obtain⟨_,_,_,_,_,_,_,_,_,_,_,_,_,_,_,_,rfl,_⟩:=h;rfl)
 obtain⟨a,b,c,fs,ns,rfl,hA,hB,lf,ln,mo,q⟩:=h
 refine⟨_,(zae (zaA (i:=2) zem.nd rfl (Or.inl rfl) (zao (k_ix K) (pv 0) zaa (λ_ _=>rfl)))
   (zae (zdM PassesOwn.never rfl (zpD K rfl B.zip (zaw (zgC (k_sl K) (pv 0) (zin zaa) zim) (zac (pv 1) zab))) (zlc K (n:=2) rfl (zb0 (zaK (i:=3) zem.nd rfl (Or.inl rfl)) (zb0 (zaK (i:=4) zem.nd rfl (Or.inl rfl)) zgz))) (zag (zaA (i:=2) zem.nd rfl (Or.inl rfl) (zaE (zaO K) (pv 2) (zaE zbm (pv 3) (pv 4))))))
   (zag (zar (pv 2))))),?_⟩
 ac_rfl
 refine zaF hA (v:=.int c) zaB ?_
 ac_rfl
 ac_rfl
 refine .inl ⟨a,_,rfl,hA,λp hp=>?_⟩
 have s1:=zah hp (.lst (cutV ((c::fs).map V.int) (some 1) none))
 have ec:cutV ((c::fs).map V.int) (some 1) none=fs.map V.int:=by
  unfold cutV
  rw[show HT.sIx ((c::fs).map V.int).length 0 (some 1)=1 by rw[show (1:Int)=((1:Nat):Int) by rfl,HT.sIx_nat];simp]
  rw[HT.sIx_none]
  simp[List.take_of_length_le]
 rw[ec] at s1 ⊢
 ac_rfl
 refine⟨p,b,rfl,⟨_,SqL.of zad⟩,⟨_,s1.seq hB⟩,?_⟩
 refine zfp (zmk (n:=8) (SqL.of zad) (s1.seq hB) (by simp[lf,ln])) (λi σ H2=>∃ x y,σ=[some (.ref a),some (.ref b),some (.int (c+dot (fs.take i) (ns.take i))),x,y]∧Same (upd H p (.lst (fs.map V.int))) H2)
  ⟨none,none,by simp[dot];rfl,Same.refl _⟩ (λi σ H2 ⟨_,_,_,e⟩=>e) ?_ ?_
 ·rintro i v σ H2 H3 hi ⟨x,y,rfl,s2⟩ s3 ⟨T,u,z,rfl,hT,eu,ez⟩
  rw[zgm] at eu ez
  obtain⟨f,hf,rfl⟩:=zme.mp eu
  obtain⟨n,hn,rfl⟩:=zme.mp ez
  refine⟨T,_,rfl,SqT.of hT,rfl,⟨_,_,rfl,?_⟩⟩
  refine⟨_,_,rfl,?_⟩
  refine⟨rfl,?_⟩
  ac_rfl
  refine ze5 (mo i f n hf hn) ?_
  ac_rfl
  refine⟨some (.int f),some (.int n),?_,s2.trans s3⟩
  rw[zc1 fs ns i f n hf hn,Int.add_assoc]
  rfl
 ·rintro σ H2 ⟨x,y,rfl,s2⟩
  ac_rfl
  rw[List.take_of_length_le (by omega),List.take_of_length_le (by omega)]
  exact q _ (s1.trans s2)
def ze9 (K:Fg):Sp:=spW K λt=>.bl (decide (0≤t))
theorem zmP {f:Addr}{fd:FuncData}(B:Bl K mg) {C:Nat→Addr}(Z:Zt K mg C) (Q1:Fn P w K mg base "worth" ["line","numbers"] 1 (ze8 K)) (F:Fun K "holds" "holds" Q3 f fd) (m:mg "holds"=some (.ref f)):Fn P w K mg base "holds" ["line","numbers"] 2 (ze9 K):=by
 refine Fn.of (k:=1) F zmK m (λ_ _ _ _ _ _ us hl=>match us,hl with | [_,_],_=>rfl) (λvs H Q E h=>?_) (λcdv A outer s H vs Q E hr h=>?_)
 ·first
  | (obtain⟨rfl,_⟩:=h;rfl)
  | (obtain⟨_,rfl,_⟩:=h;rfl)
  | (obtain⟨_,_,rfl,_⟩:=h;rfl)
  | (obtain⟨_,_,_,rfl,_⟩:=h;rfl)
  | (obtain⟨_,_,_,_,rfl,_⟩:=h;rfl)
  | (obtain⟨_,_,_,_,_,rfl,_⟩:=h;rfl)
  | (obtain⟨_,_,_,_,_,_,rfl,_⟩:=h;rfl)
  | (obtain⟨_,_,_,_,_,_,_,rfl,_⟩:=h;rfl)
  | (obtain⟨_,_,_,_,_,_,_,_,rfl,_⟩:=h;rfl)
  | (obtain⟨_,_,_,_,_,_,_,_,_,rfl,_⟩:=h;rfl)
  | (obtain⟨_,_,_,_,_,_,_,_,_,_,rfl,_⟩:=h;rfl)
  | (obtain⟨_,_,_,_,_,_,_,_,_,_,_,rfl,_⟩:=h;rfl)
  | (obtain⟨_,_,_,_,_,_,_,_,_,_,_,_,rfl,_⟩:=h;rfl)
  | (obtain⟨_,_,_,_,_,_,_,_,_,_,_,_,_,rfl,_⟩:=h;rfl)
  | (obtain⟨_,_,_,_,_,_,_,_,_,_,_,_,_,_,rfl,_⟩:=h;rfl)
  | (obtain⟨_,_,_,_,_,_,_,_,_,_,_,_,_,_,_,rfl,_⟩:=h;rfl)
  | (obtain⟨_,_,_,_,_,_,_,_,_,_,_,_,_,_,_,_,rfl,_⟩:=h;rfl)
 obtain⟨a,b,c,fs,ns,rfl,hA,hB,lf,ln,mo,q⟩:=h
 refine⟨_,(zag (zar (zbD zha (zat Q1 hr rfl (zac (pv 0) (zac (pv 1) zab))) zaa (zay _)))),?_⟩
 ac_rfl
 refine⟨a,b,c,fs,ns,rfl,hA,hB,lf,ln,mo,λH' s1=>?_⟩
 ac_rfl
 exact q H' s1
inductive Q6 (K:Fg) (C:Nat→Addr) (vs:List V) (H:Hp) (Q:VK) (E:XK):Prop
 | mk (p dx g:Addr) (n a0 a1:Int):vs=[.ref p,.int n,.ref g]→H p=some (.ins (C 5) dx [])→(SqL K H g [.int a0,.int a1]∨SqT K H g [.int a0,.int a1])→(∀ ha aa H',H ha=none→H aa=none→ha≠aa→OffA [p] H H'→H' p=some (.ins (C 5) dx (ffl n 0 ha aa))→H' ha=some (.lst [.int a0,.int a1,.int 0,.int 0])→H' aa=some (.lst [.int a0,.int a1])→Q .non H')→Q6 K C vs H Q E
theorem zeE {H H':Hp}{g:Addr}{xs:List V}(e:Sq H H') (h:SqL K H g xs∨SqT K H g xs):SqL K H' g xs∨SqT K H' g xs:=by
 rcases h with h | h
 ·exact .inl (e.lst h)
 ·exact .inr (e.tup h)
theorem zmQ {f:Addr}{fd:FuncData}(B:Bl K mg) {C:Nat→Addr}(Z:Zt K mg C)  (F:Fun K "__init__" "Frame.__init__" Q5 f fd) (M:Mk K (C 5) f):Mkr P w K mg base "Frame" (C 5) ["self","number","asked"] 1 (Q6 K C):=by
 refine⟨f,fd,M,F.ok (k:=0) zeA (λvs H Q E h=>?_) (λcdv A outer s H vs Q E hr h=>?_),F.binds λ_ _ _ _ _ _ us hl=>match us,hl with | [_,_,_],_=>rfl,Z.m_Frame⟩
 ·first
  | (obtain⟨_,_,_,_,_,_,rfl,_⟩:=h;rfl)
 obtain⟨p,dx,g,n,a0,a1,rfl,hp,hg,q⟩:=h
 refine⟨_,(zae (zbk (pv 0) (pv 1) rfl)
   (zae (zbk (pv 0) zaa rfl)
   (zae (zbk (pv 0) (za3 (zaw (zao (k_ix K) (pv 2) zaa (λ_ _=>rfl)) (zaw (zao (k_ix K) (pv 2) zaa (λ_ _=>rfl)) (zaf zaa (zaf zaa zab))))) rfl)
   (zag (zbk (pv 0) (za3 (zaw (zao (k_ix K) (pv 2) zaa (λ_ _=>rfl)) (zaw (zao (k_ix K) (pv 2) zaa (λ_ _=>rfl)) zab))) rfl))))),?_⟩
 walk_at "q"
 nofun
 refine⟨p,(C 5),dx,[],rfl,hp,Z.c_Frame,Z.n_Frame_number,by show 0<1000;decide,?_⟩
 have q1:Sq H (upd H p (.ins (C 5) dx (putF "number" (.int n) []))):=zdO hp rfl
 walk_at "q"
 nofun
 refine⟨p,(C 5),dx,_,rfl,zad,Z.c_Frame,Z.n_Frame_place,Nat.lt_of_lt_of_le (zaU (n:=1) (by decide)) (by decide),?_⟩
 have q2:=q1.trans (zdO (o:=.ins (C 5) dx (putF "place" (.int 0) (putF "number" (.int n) []))) zad rfl)
 have o2:OffA [p] H (upd (upd H p (.ins (C 5) dx (putF "number" (.int n) []))) p (.ins (C 5) dx (putF "place" (.int 0) (putF "number" (.int n) [])))):=(zbn (by simp)).trans (zbn (by simp))
 have p2:(upd (upd H p (.ins (C 5) dx (putF "number" (.int n) []))) p (.ins (C 5) dx (putF "place" (.int 0) (putF "number" (.int n) [])))) p=some (.ins (C 5) dx (putF "place" (.int 0) (putF "number" (.int n) []))):=zad
 have fr2:Free H (upd (upd H p (.ins (C 5) dx (putF "number" (.int n) []))) p (.ins (C 5) dx (putF "place" (.int 0) (putF "number" (.int n) [])))):=zcz.trans zcz
 generalize (upd (upd H p (.ins (C 5) dx (putF "number" (.int n) []))) p (.ins (C 5) dx (putF "place" (.int 0) (putF "number" (.int n) []))))=H2 at q2 o2 p2 fr2
 have hg2:=zeE q2 hg
 walk_at "q"
 nofun
 refine ziL hg2 ?_
 nofun
 refine ziM hg2 ?_
 nofun
 refine⟨(by walk_at "sm"),λha ha0=>?_⟩
 have s3:=zah ha0 (.lst [V.int a0,.int a1,.int 0,.int 0])
 have nh:ha≠p:=(zam p2 ha0).symm
 nofun
 refine⟨p,(C 5),dx,_,rfl,s3 _ _ p2,Z.c_Frame,Z.n_Frame_hands,Nat.lt_of_lt_of_le (zaU (n:=2) (zaU (n:=1) (by decide))) (by decide),?_⟩
 have q4:=s3.sq.trans (zdO (o:=.ins (C 5) dx (putF "hands" (.ref ha) (putF "place" (.int 0) (putF "number" (.int n) [])))) (s3 _ _ p2) rfl)
 have hg4:=zeE q4 hg2
 nofun
 refine ziL hg4 ?_
 nofun
 refine ziM hg4 ?_
 nofun
 refine⟨(by walk_at "sm"),λaa aa0=>?_⟩
 have na:aa≠p:=λz=>by rw[z,zad] at aa0;cases aa0
 have nah:aa≠ha:=λz=>by rw[z,zaj nh,zad] at aa0;cases aa0
 have aa2:H2 aa=none:=by rw[zaj na,zaj nah] at aa0;exact aa0
 nofun
 refine⟨p,(C 5),dx,_,rfl,by rw[zaj na.symm,zad],Z.c_Frame,Z.n_Frame_asked,Nat.lt_of_lt_of_le (zaU (n:=3) (zaU (n:=2) (zaU (n:=1) (by decide)))) (by decide),?_⟩
 rw[zol]
 refine q ha aa _ (fr2 _ ha0) (fr2 _ aa2) nah.symm (λb o nb e=>?_) zad ?_ ?_
 ·have nb':b≠p:=λz=>nb (by simp[z])
  have e2:=o2 b o nb e
  rw[zaj nb',zaj (zam e2 aa2),zaj nb',zaj (zam e2 ha0)]
  exact e2
 ·rw[zaj nh,zaj nah.symm,zaj nh,zad]
 ·rw[zaj na,zad]
inductive Q8 (K:Fg) (C:Nat→Addr) (vs:List V) (H:Hp) (Q:VK) (E:XK):Prop
 | mk (p dx ha aa:Addr) (f:Fm):vs=[.ref p]→H p=some (.ins (C 5) dx (ffl f.n f.p ha aa))→H ha=some (.lst (f.hands.map V.int))→H aa=some (.lst (f.asked.map V.int))→f.hands.length=4→f.asked.length=2→(∀ na H',Same H H'→H' na=some (.lst ((zbf f).map V.int))→Q (.ref na) H')→Q8 K C vs H Q E
theorem zeY {f:Addr}{fd:FuncData}(B:Bl K mg) {C:Nat→Addr}(Z:Zt K mg C)  (F:Fun K "numbers" "Frame.numbers" Q7 f fd) (M:Meth K (C 5) "numbers" f):Mth CX0 P w K mg base (C 5) "numbers" ["self"] 1 (Q8 K C):=by
 refine⟨f,fd,M,F.ok (k:=0) zeU (λvs H Q E h=>?_) (λcdv A outer s H vs Q E hr h=>?_),F.binds λ_ _ _ _ _ _ us hl=>match us,hl with | [_],_=>rfl⟩
 ·first
  | (obtain⟨_,_,_,_,_,rfl,_⟩:=h;rfl)
 obtain⟨p,dx,ha,aa,f,rfl,hp,hh,haa,l4,l2,q⟩:=h
 refine⟨_,(zag (zar (zaE (zaO K) (zaE (zaO K) (zaI K (pv 0) rfl) (zaI K (pv 0) rfl)) (zgC (k_sl K) (zaI K (pv 0) rfl) zim (zin zaa))))),?_⟩
 nofun
 refine⟨p,(C 5),dx,_,_,rfl,hp,Z.c_Frame,Z.n_Frame_hands,zbR _ _ _ _,?_⟩
 nofun
 refine⟨p,(C 5),dx,_,_,rfl,hp,Z.c_Frame,Z.n_Frame_asked,zmE _ _ _ _,?_⟩
 refine zb8 hh haa (zaC (by simp[l4,l2])) λp1 hp1=>?_
 have t1:=zah hp1 (.lst (f.hands.map V.int++f.asked.map V.int))
 nofun
 refine⟨p,(C 5),dx,_,_,rfl,t1 _ _ hp,Z.c_Frame,Z.n_Frame_hands,zbR _ _ _ _,?_⟩
 nofun
 refine zpP (SqL.of (t1 _ _ hh)) λp2 hp2=>?_
 rw[zhI (by decide)]
 have t2:=zah hp2 (.lst ((f.hands.map V.int).take (2:Int).toNat))
 nofun
 refine zb8 (t2 _ _ zad) zad (zaC (by simp[l4,l2])) λp3 hp3=>?_
 refine q _ _ (t1.trans (t2.trans (zah hp3 _))) ?_
 rw[zad]
 unfold zbf
 rw[List.map_append,List.map_append,List.map_take]
 rfl
inductive Q73 (K:Fg) (C:Nat→Addr) (vs:List V) (H:Hp) (Q:VK) (E:XK):Prop
 | mk (ha la va:Addr) (ks:List Int) (cr:Int→Cr) (ws:List Int) (fp:List Addr):vs=[.ref ha]→HAt (C 8) (C 7) H ha la va ks cr ws fp→(∀ (l:Addr) (ns:List Int),H l=none→ns.Perm ks→ns.Pairwise (·≤·)→Q (.ref l) (upd H l (.lst (ns.map V.int))))→Q73 K C vs H Q E
theorem zeZ {f:Addr}{fd:FuncData}(B:Bl K mg) {C:Nat→Addr}(Z:Zt K mg C)  (F:Fun K "standing" "Hall.standing" Q72 f fd) (M:Meth K (C 8) "standing" f):Mth CX0 P w K mg base (C 8) "standing" ["self"] 1 (Q73 K C):=by
 refine⟨f,fd,M,F.ok (k:=0) zeX (λvs H Q E h=>?_) (λcdv A outer s H vs Q E hr h=>?_),F.binds λ_ _ _ _ _ _ us hl=>match us,hl with | [_],_=>rfl⟩
 ·first
  | (obtain⟨_,_,_,_,_,_,_,rfl,_⟩:=h;rfl)
 obtain⟨ha,la,va,ks,cr,ws,fp,rfl,hA,q⟩:=h
 refine⟨_,(zag (zar (zaH (zhD rfl) rfl B.sorted L2.ziA (zbd (zaI K (pv 0) rfl) zab)))),?_⟩
 obtain⟨dx,hh⟩:=hA.ins
 obtain⟨kvs,hla,hk⟩:=hA.laid
 have h60:=hA.few
 nofun
 refine⟨ha,(C 8),dx,_,_,rfl,hh,Z.c_Hall,Z.n_Hall_laid,zd2 _ _,?_⟩
 nofun
 exact zof hla hk.1 (by omega) q
theorem zh1 {K:Fg}{C:Nat→Addr}{H:Hp}{p dx a3 a4:Addr}{v1 v2:V}{c:Cr}{dvs nvs:List V}{Q:VK}{E:XK}(np:H p=none) (nd:H dx=none) (r1:Rep K H (zaG c.needs) v1) (r2:Rep K H (zaG c.leaves) v2) (h3:SqL K H a3 dvs) (h4:SqL K H a4 nvs) (dr:zc4 H c.deeds dvs) (nr:R2 (λls x=>Rep K H (zaG ls) x) c.notes nvs) (g:c.Nine)
  (q:∀ H1 f,Same H H1→zbe (C 7) H1 p c f→(∀ b∈f,H b=none)→f.Nodup→Q .non H1):Q3d K C [.ref p,v1,v2,.ref a3,.ref a4] (upd (upd H dx (.own p)) p (.ins (C 7) dx [])) Q E:=by
 have sm:Same H (upd (upd H dx (.own p)) p (.ins (C 7) dx [])):=λb o e=>by
  rw[zaj (zam e np),zaj (zam e nd)];exact e
 have ld:=dr.1
 have ln:=nr.1
 have e1:=g.d
 have e2:=g.n
 have e3:=g.l
 have e4:=g.o
 refine⟨p,dx,v1,v2,.ref a3,.ref a4,c.needs,c.leaves,c.deeds.map toD,c.notes,a3,a4,dvs,nvs,rfl,zad,Rep.same sm _ r1,Rep.same sm _ r2,rfl,sm.seq h3,rfl,sm.seq h4,by omega,by omega,by rw[zlm];omega,by omega,by rw[zlm];exact ld,ln,λi d x q1 q2=>?_,λi ls x q1 q2=>?_,λH1 w1 w2 w3 w4 keep hp nw=>?_⟩
 ·rw[zgm] at q1
  obtain⟨d',hd',rfl⟩:=zme.mp q1
  exact (dr.2 i d' x hd' q2).sq sm.sq
 ·exact⟨by have:=(g.o9 ls (zmg q1)).1;omega,Rep.same sm _ (nr.2 i ls x q1 q2)⟩
 ·have s1:Same H H1:=λb o e=>keep b o (sm _ _ e) (zam e np)
  obtain⟨f,k1,k2,k3⟩:=nw
  have pf:p∉f:=λz=>by have:=k3 p z;rw[zad] at this;cases this
  refine q H1 (p::f) s1 ⟨dx,w1,w2,w3,w4,f,rfl,hp,k1⟩ (λb hb=>?_) (List.nodup_cons.mpr ⟨pf,k2⟩)
  rcases List.mem_cons.mp hb with rfl | hb
  ·exact np
  ·exact sm.fr b (k3 b hb)
theorem zmR {a1 a2 a3 a4 b1 b2 b3 b4:V}(h:flds a1 a2 a3 a4=flds b1 b2 b3 b4):a1=b1∧a2=b2∧a3=b3∧a4=b4:=by
 refine⟨?_,?_,?_,?_⟩
 ·have:=zcA a1 a2 a3 a4;rw[h,zcA] at this;injection this with this;exact this.symm
 ·have:=zcp a1 a2 a3 a4;rw[h,zcp] at this;injection this with this;exact this.symm
 ·have:=zcg a1 a2 a3 a4;rw[h,zcg] at this;injection this with this;exact this.symm
 ·have:=zdE a1 a2 a3 a4;rw[h,zdE] at this;injection this with this;exact this.symm
inductive Q45 (K:Fg) (C:Nat→Addr) (vs:List V) (H:Hp) (Q:VK) (E:XK):Prop
 | mk (p:Addr) (c:Cr):vs=[.ref p]→zeO K (C 7) H p c.needs c.leaves c.deeds c.notes→c.Nine→(∀ q f H',Same H H'→zbe (C 7) H' q c f→(∀ b∈f,H b=none)→f.Nodup→Q (.ref q) H')→Q45 K C vs H Q E
theorem zfQ {f:Addr}{fd:FuncData}(B:Bl K mg) {C:Nat→Addr}(Z:Zt K mg C) (M_Craft:Mkr P w K mg base "Craft" (C 7) ["self","needs","leaves","deeds","notes"] 2 (Q3d K C)) (F:Fun K "copied_craft" "copied_craft" Q44 f fd) (m:mg "copied_craft"=some (.ref f)):Fn P w K mg base "copied_craft" ["craft"] 4 (Q45 K C):=by
 refine Fn.of (k:=3) F zfK m (λ_ _ _ _ _ _ us hl=>match us,hl with | [_],_=>rfl) (λvs H Q E h=>?_) (λcdv A outer s H vs Q E hr h=>?_)
 ·first
  | (obtain⟨_,_,rfl,_⟩:=h;rfl)
 obtain⟨p,c,rfl,hT,g,q⟩:=h
 refine⟨_,(zag (zar (zn4 M_Craft hr rfl (zbd (zaI K (pv 0) rfl) (zbd (zaI K (pv 0) rfl) (zbd (zaI K (pv 0) rfl) (zbd (zaI K (pv 0) rfl) zab))))))),?_⟩
 obtain⟨⟨dx,w1,w2,w3,w4,hp,r1,r2,r3,r4⟩,dx',u1,u2,b3,u4,dvs,hp',hb3,hD⟩:=hT
 have e:=hp
 rw[hp'] at e
 injection e with e
 injection e with _ e0 e
 obtain⟨rfl,rfl,rfl,rfl⟩:=zmR e
 unfold Rep at r4
 obtain⟨b4,nvs,rfl,q4,z4⟩:=r4
 have z4l:=z4.length
 nofun
 refine⟨p,(C 7),dx,_,_,rfl,hp,Z.c_Craft,Z.n_Craft_needs,zcA _ _ _ _,?_⟩
 nofun
 refine⟨p,(C 7),dx,_,_,rfl,hp,Z.c_Craft,Z.n_Craft_leaves,zcp _ _ _ _,?_⟩
 nofun
 refine⟨p,(C 7),dx,_,_,rfl,hp,Z.c_Craft,Z.n_Craft_deeds,zcg _ _ _ _,?_⟩
 nofun
 refine⟨p,(C 7),dx,_,_,rfl,hp,Z.c_Craft,Z.n_Craft_notes,zdE _ _ _ _,?_⟩
 nofun
 intro y dy hy hdy ndy
 refine zh1 (c:=c) hy hdy r1 r2 (SqL.of hb3) q4 hD ⟨by simpa using z4l,λi ls x e1 e2=>?_⟩ g λH1 f s1 hC hf fn=>⟨rfl,q y f H1 s1 hC hf fn⟩
 obtain⟨d,hd,hrx⟩:=Reps.get' z4 e2
 rw[zgm,e1] at hd
 cases hd
 exact hrx
inductive Q76 (K:Fg) (C:Nat→Addr) (vs:List V) (H:Hp) (Q:VK) (E:XK):Prop
 | mk (ha la va:Addr) (ks:List Int) (cr:Int→Cr) (ws:List Int) (fp:List Addr):vs=[.ref ha]→HAt (C 8) (C 7) H ha la va ks cr ws fp→(∀ ca H' kvs (ns:List Int) (F:Int→List Addr),Same H H'→H ca=none→H' ca=some (.dK kvs)→ns.Perm ks→ns.Pairwise (·≤·)→KVs (λm v=>∃ p,v=.ref p∧zbe (C 7) H' p (cr m) (F m)) kvs ns→(∀ m∈ns,∀ b∈F m,H b=none)→(∀ m∈ns,(F m).Nodup)→(∀ m∈ns,∀ k∈ns,m≠k→∀ b∈F m,b∉F k)→Q (.ref ca) H')→Q76 K C vs H Q E
theorem zf7 {f:Addr}{fd:FuncData}(B:Bl K mg) {C:Nat→Addr}(Z:Zt K mg C) (Q74:Mth CX0 P w K mg base (C 8) "standing" ["self"] 1 (Q73 K C)) (Q46:Fn P w K mg base "copied_craft" ["craft"] 4 (Q45 K C)) (F:Fun K "crafts" "Hall.crafts" Q75 f fd) (M:Meth K (C 8) "crafts" f):Mth CX0 P w K mg base (C 8) "crafts" ["self"] 5 (Q76 K C):=by
 refine⟨f,fd,M,F.ok (k:=4) zcL (λvs H Q E h=>?_) (λcdv A outer s H vs Q E hr h=>?_),F.binds λ_ _ _ _ _ _ us hl=>match us,hl with | [_],_=>rfl⟩
 ·first
  | (obtain⟨_,_,_,_,_,_,_,rfl,_⟩:=h;rfl)
 obtain⟨ha,la,va,ks,cr,ws,fp,rfl,hA,q⟩:=h
 refine⟨_,(zae (zaA (i:=1) zcL.nd rfl (Or.inl rfl) zgH)
   (zae (zdM PassesOwn.never rfl (zbO K (zby Q74 Z.c_Hall hr za5 (pv 0))) (zaK (i:=2) zcL.nd rfl (Or.inl rfl)) (zag (zkU (hr_u hr) (pv 1) (pv 2) (zat Q46 hr rfl (zaw (zcH (hr_u hr) (zaI K (pv 0) rfl) (pv 2) (λ_ _=>rfl)) zab)) rfl)))
   (zag (zar (pv 1))))),?_⟩
 obtain⟨dx,hh⟩:=hA.ins
 have h60:=hA.few
 walk_at "q"
 nofun
 intro ca ca0
 have s1:=zah ca0 (.dK [])
 nofun
 walk_at "q"
 nofun
 refine⟨ha,dx,_,rfl,s1 _ _ hh,ziF (by decide +kernel) (by decide +kernel),?_⟩
 nofun
 refine⟨ha,la,va,ks,cr,ws,fp,rfl,hA.same s1,λl ns l0 pm so=>?_⟩
 have s2:=zah l0 (.lst (ns.map V.int))
 have s12:=s1.trans s2
 have hca:=s2 _ _ (zad (H:=H) (a:=ca) (o:=.dK []))
 have nlc:l≠ca:=λz=>by rw[z,zad] at l0;cases l0
 have hl:(upd (upd H ca (.dK [])) l (.lst (ns.map V.int))) l=some (.lst (ns.map V.int)):=zad
 generalize (upd (upd H ca (.dK [])) l (.lst (ns.map V.int)))=H2 at s2 s12 hca hl
 have nnd:ns.Nodup:=pm.nodup_iff.mpr hA.nd
 have nlen:=pm.length_eq
 refine⟨l,rfl,⟨_,SqL.of hl⟩,?_⟩
 refine zld (xs:=ns.map V.int) (λi σ H'=>E3 λx kvs F=>A8 (σ=[some (.ref ha),some (.ref ca),x]) (Same H H') (NoD H2 H') (H' ca=some (.dK kvs)) (KVs (λm v=>∃ p,v=.ref p∧zbe (C 7) H' p (cr m) (F m)) kvs (ns.take i)) ((∀ m∈ns.take i,∀ b∈F m,H b=none)) ((∀ m∈ns.take i,(F m).Nodup)) ((∀ m∈ns.take i,∀ k∈ns.take i,m≠k→∀ b∈F m,b∉F k)))
  ⟨none,[],(λ_=>[]:Int→List Addr),rfl,s12,(Same.refl _).nod,hca,by rw[List.take_zero];exact KVs.nil,λm hm=>by simp at hm,λm hm=>by simp at hm,λm hm=>by simp at hm⟩ (λi σ H' _ ⟨_,_,_,_,_,nd,_,_,_,_,_⟩=>SqL.of (nd _ _ hl (λ_ z=>by cases z))) ?_ ?_
 ·rintro i v σ H3 hv ⟨x,kvs,F,rfl,s3,nd3,hc3,hk3,f3,u3,d3⟩
  rw[zgm] at hv
  obtain⟨m,hm,rfl⟩:=zme.mp hv
  have hi:i<ns.length:=(zge.mp hm).1
  have mk:m∈ks:=pm.mem_iff.mp (zmg hm)
  have mt:m∉ns.take i:=ziG nnd hm
  have hA3:=hA.same s3
  obtain⟨dx3,hh3⟩:=hA3.ins
  obtain⟨kvl,hla,hkl⟩:=hA3.laid
  obtain⟨v,hv,p,f,rfl,hC,hf⟩:=hkl.2.2 m mk
  have rt:=hA.rt m mk
  nofun
  refine⟨ha,(C 8),dx3,_,_,rfl,hh3,Z.c_Hall,Z.n_Hall_laid,zd2 _ _,?_⟩
  nofun
  refine⟨la,.ref p,rfl,by rw[←hv];exact DGet.k (k:=.inl m) hla,?_⟩
  nofun
  refine⟨p,cr m,rfl,hC.t rt.nine.d9,rt.nine,λq fq H4 s4 hq fq0 fqn=>?_⟩
  have hc4:=s4 _ _ hc3
  have kl:=hk3.len
  rw[List.length_take] at kl
  nofun
  refine⟨ca,_,rfl,DPut.k (k:=.inl m) hc4 (zb3 (by omega)),?_⟩
  have nd5:NoD H4 (upd H4 ca (.dK (putK kvs (.inl m) (.ref q)))):=zgN hc4
  have put:=hk3.put' (m:=m) (v:=.ref q) (P':=λk v=>∃ p,v=.ref p∧zbe (C 7) (upd H4 ca (.dK (putK kvs (.inl m) (.ref q)))) p (cr k) ((λj=>if j=m then fq else F j) k)) ⟨q,rfl,by simp only[if_pos];exact hq.nod nd5⟩ (λk v ne ⟨p',e1,e2⟩=>⟨p',e1,by simp only[if_neg ne];exact (e2.same s4).nod nd5⟩)
  rw[if_neg mt] at put
  have tk:ns.take (i+1)=ns.take i++[m]:=by rw[List.take_add_one,hm];rfl
  have old:∀ k∈ns.take i,∀ b∈F k,∃ o,H3 b=some o:=λk hk b hb=>by
   obtain⟨v,_,p',_,e2⟩:=hk3.2.2 k hk
   exact e2.has b hb
  refine⟨_,_,_,rfl,(s3.trans s4).put ca0,nd3.trans (s4.nod.trans nd5),zad,by rw[tk];exact put,λk hk b hb=>?_,λk hk=>?_,λk hk j hj ne b hb=>?_⟩
  ·rw[tk] at hk
   by_cases z:k=m
   ·simp only[z,if_pos] at hb
    exact s3.fr b (fq0 b hb)
   ·simp only[if_neg z] at hb
    refine f3 k ?_ b hb
    rcases zma.mp hk with w | w
    ·exact w
    ·exact absurd (zms.mp w) z
  ·rw[tk] at hk
   by_cases z:k=m
   ·simp only[z,if_pos];exact fqn
   ·simp only[if_neg z]
    refine u3 k ?_
    rcases zma.mp hk with w | w
    ·exact w
    ·exact absurd (zms.mp w) z
  ·rw[tk] at hk hj
   have inT:∀ {k},k∈ns.take i++[m]→¬ k=m→k∈ns.take i:=λ{k} hk z=>by
    rcases zma.mp hk with w | w
    ·exact w
    ·exact absurd (zms.mp w) z
   by_cases z:k=m
   ·have zj:¬ j=m:=λw=>ne (z.trans w.symm)
    simp only[if_pos z] at hb
    simp only[if_neg zj]
    intro w
    obtain⟨o,ho⟩:=old j (inT hj zj) b w
    rw[fq0 b hb] at ho;cases ho
   ·simp only[if_neg z] at hb
    by_cases zj:j=m
    ·simp only[if_pos zj]
     intro w
     obtain⟨o,ho⟩:=old k (inT hk z) b hb
     rw[fq0 b w] at ho;cases ho
    ·simp only[if_neg zj]
     exact d3 k (inT hk z) j (inT hj zj) ne b hb
 ·rintro σ H3 ⟨x,kvs,F,rfl,s3,nd3,hc3,hk3,f3,u3,d3⟩
  rw[zlm,List.take_of_length_le (Nat.le_refl _)] at hk3 f3 u3 d3
  nofun
  exact q ca H3 kvs ns F s3 ca0 hc3 pm so hk3 f3 u3 d3
inductive Q31 (K:Fg) (C:Nat→Addr) (vs:List V) (H:Hp) (Q:VK) (E:XK):Prop
 | mk (r ka ia sa:Addr) (ks:List Int) (cr:Int→Cr) (fas:List Fa) (s:Rs) (kfp:List Addr) (p dx ha aa:Addr) (f:Fm):vs=[.ref r,.ref p]→RunX (C 6) (C 5) (C 7) H r ka ia sa ks cr fas s kfp→H p=some (.ins (C 5) dx (ffl f.n f.p ha aa))→f.n∈ks→(∀ q g,zbe (C 7) H q (cr f.n) g→Q (.ref q) H)→Q31 K C vs H Q E
theorem zfR {f:Addr}{fd:FuncData}(B:Bl K mg) {C:Nat→Addr}(Z:Zt K mg C)  (F:Fun K "craft_of" "Run.craft_of" Q30 f fd) (M:Meth K (C 6) "craft_of" f):Mth CX0 P w K mg base (C 6) "craft_of" ["self","frame"] 1 (Q31 K C):=by
 refine⟨f,fd,M,F.ok (k:=0) zfI (λvs H Q E h=>?_) (λcdv A outer s H vs Q E hr h=>?_),F.binds λ_ _ _ _ _ _ us hl=>match us,hl with | [_,_],_=>rfl⟩
 ·first
  | (obtain⟨_,_,_,_,_,_,_,_,_,_,_,_,_,_,rfl,_⟩:=h;rfl)
 obtain⟨r,ka,ia,sa,ks,cr,fas,s,kfp,p,dx,ha,aa,f,rfl,A',hp,hn,q⟩:=h
 refine⟨_,(zag (zar (zcH (hr_u hr) (zaI K (pv 0) rfl) (zaI K (pv 1) rfl) (λ_ _=>rfl)))),?_⟩
 obtain⟨dr,ev,hr',_⟩:=A'.ins
 obtain⟨kvs,o,g,e1,e2,e3⟩:=A'.kn.craft hn
 nofun
 refine⟨r,(C 6),dr,_,_,rfl,hr',Z.c_Run,Z.n_Run_known,zej,?_⟩
 nofun
 refine⟨p,(C 5),dx,_,_,rfl,hp,Z.c_Frame,Z.n_Frame_number,zfz _ _ _ _,?_⟩
 refine⟨ka,.ref o,rfl,by rw[←e2];exact DGet.k (k:=.inl f.n) e1,?_⟩
 exact q o g e3
inductive Q26 (K:Fg) (C:Nat→Addr) (vs:List V) (H:Hp) (Q:VK) (E:XK):Prop
 | mk (r ka ia sa:Addr) (ks:List Int) (cr:Int→Cr) (fas:List Fa) (s:Rs) (kfp:List Addr) (f:Fm) (st:List Fm):vs=[.ref r]→RunX (C 6) (C 5) (C 7) H r ka ia sa ks cr fas s kfp→s.st=f::st→WfF ks cr f→(cr f.n).Rt→Q (.bl (decide (f.p=((cr f.n).deeds.length:Int)))) H→Q26 K C vs H Q E
theorem zcw {f:Addr}{fd:FuncData}(B:Bl K mg) {C:Nat→Addr}(Z:Zt K mg C) (Q32:Mth CX0 P w K mg base (C 6) "craft_of" ["self","frame"] 1 (Q31 K C)) (F:Fun K "is_behind_last_deed" "Run.is_behind_last_deed" Q25 f fd) (M:Meth K (C 6) "is_behind_last_deed" f):Mth CX0 P w K mg base (C 6) "is_behind_last_deed" ["self"] 2 (Q26 K C):=by
 refine⟨f,fd,M,F.ok (k:=1) zbx (λvs H Q E h=>?_) (λcdv A outer s H vs Q E hr h=>?_),F.binds λ_ _ _ _ _ _ us hl=>match us,hl with | [_],_=>rfl⟩
 ·first
  | (obtain⟨_,_,_,_,_,_,_,_,_,_,_,rfl,_⟩:=h;rfl)
 obtain⟨r,ka,ia,sa,ks,cr,fas,s',kfp,f,st,rfl,A',hst,wf,rt,q⟩:=h
 refine⟨_,(zae (zaA (i:=1) zbx.nd rfl (Or.inl rfl) (zao (k_ix K) (zaI K (pv 0) rfl) (zcX zbM zaa) (λ_ _=>rfl)))
   (zag (zar (zbD (k_eq K hr) (zaI K (pv 1) rfl) (zaH (zdY K) rfl B.len L2.boot_len (zbd (zaI K (zbb Q32 Z.c_Run hr za5 (pv 0) (zac (pv 1) zab)) rfl) zab)) (zay _))))),?_⟩
 obtain⟨dr,ev,hr',_⟩:=A'.ins
 have fr:=A'.fr
 rw[hst] at fr
 cases fas with
 | nil=>exact fr.elim
 | cons t fas=>
 obtain⟨p,ha,aa⟩:=t
 obtain⟨⟨dp,f1⟩,_⟩:=fr
 walk_at "q"
 nofun
 refine⟨r,(C 6),dr,_,_,rfl,hr',Z.c_Run,Z.n_Run_stack,zbo,?_⟩
 nofun
 refine zaF (SqL.of A'.sta) (v:=.ref p) zcD ?_
 nofun
 refine⟨p,(C 5),dp,_,_,rfl,f1,Z.c_Frame,Z.n_Frame_place,zb1 _ _ _ _,?_⟩
 nofun
 refine⟨r,dr,_,rfl,hr',zbH (by decide +kernel),?_⟩
 nofun
 refine⟨r,ka,ia,sa,ks,cr,(p,ha,aa)::fas,s',kfp,p,dp,ha,aa,f,rfl,A',f1,wf.m,λo g hC=>?_⟩
 obtain⟨dx,y1,y2,b3,b4,dvs,nvs,ho,_,_,h3,hD,_⟩:=hC.out (K:=K) rt.nine.d9
 nofun
 refine⟨o,(C 7),dx,_,_,rfl,ho,Z.c_Craft,Z.n_Craft_deeds,zcg _ _ _ _,?_⟩
 nofun
 refine zdX (.inl (SqL.of h3)) ?_
 refine zpp ?_
 have e:dvs.length=(cr f.n).deeds.length:=hD.1.symm
 rw[e]
 exact q
inductive Q37 (K:Fg) (vs:List V) (H:Hp) (Q:VK) (E:XK):Prop
 | mk (la na:Addr) (ls:List (List Int)) (ns:List Int):vs=[.ref la,.ref na]→zbI K H la ls→SqL K H na (ns.map V.int)→ns.length=8→(∀ l∈ls,l.length=9∧Sm l)→(∀ H',Same H H'→Q (badV (zav ls ns)) H')→Q37 K vs H Q E
theorem zlI {H:Hp}{Q:VK}{E:XK}{la na:Addr}{ls:List (List Int)}{ns:List Int}(h1:zbI K H la ls) (h2:SqL K H na (ns.map V.int)) (h3:ns.length=8) (h4:∀ l∈ls,l.length=9∧Sm l) (q:∀ H',Same H H'→Q (badV (zav ls ns)) H'):Q37 K [.ref la,.ref na] H Q E:=⟨la,na,ls,ns,rfl,h1,h2,h3,h4,q⟩
theorem zdT {ls:List (List Int)}{P:List Int→Bool}{i:Nat}{l:List Int}(h:(ls.take i).findIdx? P=none) (e:ls[i]?=some l) (hp:P l=false):(ls.take (i+1)).findIdx? P=none:=by
 rw[List.take_add_one,e,List.findIdx?_append,h]
 simp[hp]
theorem zf8 {f:Addr}{fd:FuncData}(B:Bl K mg) {C:Nat→Addr}(Z:Zt K mg C) (Q4:Fn P w K mg base "holds" ["line","numbers"] 2 (ze9 K)) (F:Fun K "first_unmet" "first_unmet" Q36 f fd) (m:mg "first_unmet"=some (.ref f)):Fn P w K mg base "first_unmet" ["lines","numbers"] 3 (Q37 K):=by
 refine Fn.of (k:=2) F zcK m (λ_ _ _ _ _ _ us hl=>match us,hl with | [_,_],_=>rfl) (λvs H Q E h=>?_) (λcdv A outer s H vs Q E hr h=>?_)
 ·first
  | (obtain⟨_,_,_,_,rfl,_⟩:=h;rfl)
 obtain⟨la,na,ls,ns,rfl,⟨xs,hla,hxs⟩,hna,n8,h9,q⟩:=h
 refine⟨_,(zae (zdM PassesOwn.never rfl (zn3 K rfl B.enumerate (zac (pv 0) zab)) (zlc K (n:=2) rfl (zb0 (zaK (i:=2) zcK.nd rfl (Or.inl rfl)) (zb0 (zaK (i:=3) zcK.nd rfl (Or.inl rfl)) zgz))) (zag (zaR (zc9 (zb2 (zat Q4 hr rfl (zac (pv 3) (zac (pv 1) zab))))) (zag (zar (pv 2))) zax)))
   (zag (zar zcN))),?_⟩
 have lx:=hxs.length
 rw[zlm] at lx
 walk_at "q"
 nofun
 refine⟨la,xs,rfl,hla,?_⟩
 refine zfp (zk7 (SqL.of hla)) (λi σ H2=>∃ x y,A3 (σ=[some (.ref la),some (.ref na),x,y]) (Same H H2) ((ls.take i).findIdx? (λl=>decide (zaV l ns<0))=none))
  ⟨none,none,rfl,Same.refl _,rfl⟩ (λi σ H2 ⟨_,_,_,e,_⟩=>e) ?_ ?_
 ·rintro i v σ H2 H3 hi ⟨x,y,rfl,s2,hf⟩ s3 ⟨T,u,rfl,hT,hu'⟩
  have s03:=s2.trans s3
  obtain⟨d,hd,hru⟩:=Reps.get' hxs hu'
  rw[zgm] at hd
  obtain⟨l,hl,rfl⟩:=zme.mp hd
  obtain⟨ua,rfl,hua⟩:=zcf.mp (Rep.same s03 _ hru)
  obtain⟨l9,lsm⟩:=h9 l (zmg hl)
  refine⟨T,_,rfl,SqT.of hT,rfl,⟨_,_,rfl,?_⟩⟩
  refine⟨_,_,rfl,?_⟩
  refine⟨rfl,?_⟩
  cases l with
  | nil=>simp at l9
  | cons c fs=>
  nofun
  refine⟨ua,na,c,fs,ns,rfl,hua,s03.seq hna,by simpa using l9,n8,zjs lsm,λH4 s4=>?_⟩
  have ew:c+dot fs ns=zaV (c::fs) ns:=(zc2 _ _ _).symm
  rw[ew]
  dsimp only
  by_cases hb:0≤zaV (c::fs) ns
  ·rw[decide_eq_true hb]
   nofun
   exact⟨_,_,rfl,s03.trans s4,zdT hf hl (decide_eq_false (by omega))⟩
  ·rw[decide_eq_false hb]
   nofun
   have e:zav ls ns=some i:=by
    unfold zav
    rw[zhK hf hl,if_pos (decide_eq_true (by omega))]
   have:=q _ (s03.trans s4)
   rw[e] at this
   exact this
 ·rintro σ H2 ⟨x,y,rfl,s2,hf⟩
  nofun
  rw[←lx,List.take_of_length_le (Nat.le_refl _)] at hf
  have e:zav ls ns=none:=hf
  have:=q _ s2
  rw[e] at this
  exact this
inductive Q34 (K:Fg) (C:Nat→Addr) (vs:List V) (H:Hp) (Q:VK) (E:XK):Prop
 | mk (r ka ia sa:Addr) (ks:List Int) (cr:Int→Cr) (fas:List Fa) (s:Rs) (kfp:List Addr) (w:Str) (la na:Addr) (ls:List (List Int)) (ns:List Int) (f:Fm) (st:List Fm):vs=[.ref r,.str w,.ref la,.ref na]→RunX (C 6) (C 5) (C 7) H r ka ia sa ks cr fas s kfp→s.st=f::st→s.en=none→zbI K H la ls→SqL K H na (ns.map V.int)→ns.length=8→(∀ l∈ls,l.length=9∧Sm l)→(∀ H',OffA [r] H H'→RunX (C 6) (C 5) (C 7) H' r ka ia sa ks cr fas {s with en:=(zav ls ns).map (brk w f)} kfp→Q (.bl (zav ls ns).isNone) H')→Q34 K C vs H Q E
theorem zh2 {f:Addr}{fd:FuncData}(B:Bl K mg) {C:Nat→Addr}(Z:Zt K mg C) (Q38:Fn P w K mg base "first_unmet" ["lines","numbers"] 3 (Q37 K)) (F:Fun K "meets" "Run.meets" Q33 f fd) (M:Meth K (C 6) "meets" f):Mth CX0 P w K mg base (C 6) "meets" ["self","word","lines","numbers"] 4 (Q34 K C):=by
 refine⟨f,fd,M,F.ok (k:=3) zdw (λvs H Q E h=>?_) (λcdv A outer s H vs Q E hr h=>?_),F.binds λ_ _ _ _ _ _ us hl=>match us,hl with | [_,_,_,_],_=>rfl⟩
 ·first
  | (obtain⟨_,_,_,_,_,_,_,_,_,_,_,_,_,_,_,_,rfl,_⟩:=h;rfl)
 obtain⟨r,ka,ia,sa,ks,cr,fas,s',kfp,w,la,na,ls,ns,f,st,rfl,A',hst,hen,hL,hN,n8,h9,q⟩:=h
 refine⟨_,(zae (zaA (i:=4) zdw.nd rfl (Or.inl rfl) (zat Q38 hr rfl (zac (pv 2) (zac (pv 3) zab))))
   (zae (zaR (zau zkC (pv 4) zcN (zay _)) (zae (zaA (i:=5) zdw.nd rfl (Or.inl rfl) (zao (k_ix K) (zaI K (pv 0) rfl) (zcX zbM zaa) (λ_ _=>rfl)))
   (zag (zbk (pv 0) (zaZ (zaf zaJ (zac (pv 1) (zbd (zaI K (pv 5) rfl) (zbd (zaI K (pv 5) rfl) (zac (pv 4) zab)))))) rfl))) zax)
   (zag (zar (zbD zfd (pv 4) zcN (zay _)))))),?_⟩
 walk_at "q"
 nofun
 refine zlI hL hN n8 h9 λH1 s1=>?_
 have A1:=A'.same s1
 nofun
 cases hb:zav ls ns with
 | none=>
  rw[hb] at q
  have q:=q H1 s1.offA (by
   have e:({s' with en:=(none:Option Nat).map (brk w f)} : Rs)=s':=by cases s';cases hen;rfl
   rw[e];exact A1)
  with_reducible refine znh (λQ2 q2=>?_) ?_
  ·nofun
   refine⟨rfl,?_⟩
   show ∃ k,V.bl (!decide (V.non=V.non))=.bl k∧_
   rw[ziy]
   nofun
   exact q2
  ·nofun
   refine⟨rfl,?_⟩
   show Q (.bl (decide (V.non=V.non))) H1
   rw[ziy]
   exact q
 | some i=>
  rw[hb] at q
  have ei:∀ j:Int,decide (V.int j=V.non)=false:=λj=>decide_eq_false (by intro z;cases z)
  obtain⟨dr,ev,hr',_⟩:=A1.ins
  have fr:=A1.fr
  rw[hst] at fr
  cases fas with
  | nil=>exact fr.elim
  | cons t fas=>
  obtain⟨p,ha,aa⟩:=t
  obtain⟨⟨dp,f1⟩,_⟩:=fr
  with_reducible refine zee (λσ H'=>σ=[some (.ref r),some (.str w),some (.ref la),some (.ref na),some (.int (i:Int)),some (.ref p)]∧OffA [r] H1 H'∧RunX (C 6) (C 5) (C 7) H' r ka ia sa ks cr ((p,ha,aa)::fas) {s' with en:=some (brk w f i)} kfp) (λNX tail=>?_) ?_
  ·nofun
   refine⟨rfl,?_⟩
   show ∃ k,V.bl (!decide (V.int (i:Int)=V.non))=.bl k∧_
   rw[ei]
   nofun
   walk_at "q"
   nofun
   refine⟨r,(C 6),dr,_,_,rfl,hr',Z.c_Run,Z.n_Run_stack,zbo,?_⟩
   nofun
   refine zaF (SqL.of A1.sta) (v:=.ref p) zcD ?_
   nofun
   refine⟨p,(C 5),dp,_,_,rfl,f1,Z.c_Frame,Z.n_Frame_number,zfz _ _ _ _,?_⟩
   nofun
   refine⟨p,(C 5),dp,_,_,rfl,f1,Z.c_Frame,Z.n_Frame_place,zb1 _ _ _ _,?_⟩
   nofun
   refine⟨(by walk_at "sm"),λT hT=>?_⟩
   have t2:=zah hT (.tup (brk w f i))
   nofun
   refine⟨r,(C 6),dr,_,rfl,t2 _ _ hr',Z.c_Run,Z.n_Run_ending,by show 5<1000;decide,?_⟩
   rw[zcq]
   refine tail _ _ ⟨rfl,t2.offA.trans (zbn (by simp)),?_⟩
   have:=(A1.same t2).setR (k':=s'.k) (en':=some (brk w f i)) (t2 _ _ hr') ⟨T,rfl,zad⟩
   exact this
  ·rintro σ H2 ⟨rfl,o2,A2⟩
   nofun
   refine⟨rfl,?_⟩
   show Q (.bl (decide (V.int (i:Int)=V.non))) H2
   rw[ei]
   exact q H2 (s1.offA.trans o2) A2
inductive Q2f (K:Fg) (C:Nat→Addr) (vs:List V) (H:Hp) (Q:VK) (E:XK):Prop
 | mk (r ka ia sa:Addr) (ks:List Int) (cr:Int→Cr) (fas:List Fa) (s:Rs) (kfp:List Addr) (g:Fm) (st:List Fm) (l0 l1:Int):vs=[.ref r,.int l0,.int l1]→RunX (C 6) (C 5) (C 7) H r ka ia sa ks cr fas s kfp→s.st=g::st→WfF ks cr g→zfy cr g→(∀ H',zaq (zas r ia sa fas) H (zas r ia sa fas) H'→RunX (C 6) (C 5) (C 7) H' r ka ia sa ks cr fas {s with st:=zf1 cr g l0 l1::st} kfp→Q .non H')→Q2f K C vs H Q E
theorem ziU {f:Addr}{fd:FuncData}(B:Bl K mg) {C:Nat→Addr}(Z:Zt K mg C) (Q32:Mth CX0 P w K mg base (C 6) "craft_of" ["self","frame"] 1 (Q31 K C)) (F:Fun K "take" "Run.take" Q2e f fd) (M:Meth K (C 6) "take" f):Mth CX0 P w K mg base (C 6) "take" ["self","left_0","left_1"] 2 (Q2f K C):=by
 refine⟨f,fd,M,F.ok (k:=1) zd4 (λvs H Q E h=>?_) (λcdv A outer s H vs Q E hr h=>?_),F.binds λ_ _ _ _ _ _ us hl=>match us,hl with | [_,_,_],_=>rfl⟩
 ·first
  | (obtain⟨_,_,_,_,_,_,_,_,_,_,_,_,_,rfl,_⟩:=h;rfl)
 obtain⟨r,ka,ia,sa,ks,cr,fas,s',kfp,g,st,l0,l1,rfl,A',hst,wf,hc,q⟩:=h
 refine⟨_,(zae (zaA (i:=3) zd4.nd rfl (Or.inl rfl) (zao (k_ix K) (zaI K (pv 0) rfl) (zcX zbM zaa) (λ_ _=>rfl)))
   (zae (zaA (i:=4) zd4.nd rfl (Or.inl rfl) (zao (k_ix K) (zao (k_ix K) (zaI K (zbb Q32 Z.c_Run hr za5 (pv 0) (zac (pv 3) zab)) rfl) (zaI K (pv 3) rfl) (λ_ _=>rfl)) zaa (λ_ _=>rfl)))
   (zae (zcd (pv 1) (zck (zaI K (pv 3) rfl) (zao (k_ix K) (pv 4) zaa (λ_ _=>rfl)) zbg))
   (zae (zcd (pv 2) (zck (zaI K (pv 3) rfl) (zao (k_ix K) (pv 4) zaa (λ_ _=>rfl)) zbg))
   (zag (zbk (pv 3) (zaE (zaO K) (zaI K (pv 3) rfl) zaa) rfl)))))),?_⟩
 have rt:=A'.kn.rt g.n wf.m
 obtain⟨dr,ev,hr',_⟩:=A'.ins
 have fr:=A'.fr
 rw[hst] at fr
 cases fas with
 | nil=>exact fr.elim
 | cons t fas=>
 obtain⟨p,ha,aa⟩:=t
 obtain⟨⟨dp,f1⟩,f2,f3,f4⟩:=fr
 have hlt:=hc.lt
 obtain⟨m,g0,g1,t0,t1,hd⟩:=hc
 have hok:=rt.parts.2.2.2.2.2 _ (zmg hd)
 obtain⟨_,_,b0,b1,_⟩:=zdF hok
 have e4:=wf.h4
 nofun
 walk_at "q"
 nofun
 refine⟨r,(C 6),dr,_,_,rfl,hr',Z.c_Run,Z.n_Run_stack,zbo,?_⟩
 nofun
 refine zaF (SqL.of A'.sta) (v:=.ref p) zcD ?_
 nofun
 walk_at "q"
 nofun
 refine⟨r,dr,_,rfl,hr',zbH (by decide +kernel),?_⟩
 nofun
 refine⟨r,ka,ia,sa,ks,cr,(p,ha,aa)::fas,s',kfp,p,dp,ha,aa,g,rfl,A',f1,wf.m,λo gg hC=>?_⟩
 obtain⟨dx,y1,y2,b3,b4,dvs,nvs,ho,_,_,h3,hD,_⟩:=hC.out (K:=K) rt.nine.d9
 have ld:=hD.1
 have hx:=List.getElem?_eq_getElem (l:=dvs) (i:=g.p.toNat) (by omega)
 obtain⟨T,ys,hT,hT2,px⟩:=zaT (hD.2 _ _ _ hd hx)
 obtain⟨x0,ys,rfl,e0,px⟩:=zal px
 obtain⟨x1,ys,rfl,e1,px⟩:=zal px
 obtain⟨x2,ys,rfl,e2,px⟩:=zal px
 obtain⟨x3,ys,rfl,e3,px⟩:=zal px
 obtain⟨tk,rfl,htk⟩:=zeh e3
 nofun
 refine⟨o,(C 7),dx,_,_,rfl,ho,Z.c_Craft,Z.n_Craft_deeds,zcg _ _ _ _,?_⟩
 nofun
 refine⟨p,(C 5),dp,_,_,rfl,f1,Z.c_Frame,Z.n_Frame_place,zb1 _ _ _ _,?_⟩
 nofun
 refine zaF (SqL.of h3) (v:=.ref T) (zft wf.p0 (by rw[hx,hT])) ?_
 nofun
 refine zaD (SqT.of hT2) (v:=.ref tk) (zan (j:=3) rfl) ?_
 nofun
 walk_at "q"
 nofun
 refine⟨p,(C 5),dp,_,_,rfl,f1,Z.c_Frame,Z.n_Frame_hands,zbR _ _ _ _,?_⟩
 nofun
 refine zaD (SqT.of htk) (v:=.int t0) zaB ?_
 nofun
 refine zbw f2 (j:=t0.toNat) (zcn b0.1 (by rw[zlm];omega)) ?_
 rw[zcE]
 have A1:=A'.setH (xs:=g.hands.set t0.toNat l0) hst
 obtain⟨⟨dp1,g1'⟩,g2',g3',_⟩:=A1.fr
 have tk1:=(zbC (o:=.lst ((g.hands.set t0.toNat l0).map V.int)) f2) _ _ htk
 have m1:zaq (zas r ia sa ((p,ha,aa)::fas)) H (zas r ia sa ((p,ha,aa)::fas)) (upd H ha (.lst ((g.hands.set t0.toNat l0).map V.int))):=zaq.upd zoo
 generalize upd H ha (.lst ((g.hands.set t0.toNat l0).map V.int))=H1 at *
 nofun
 walk_at "q"
 nofun
 refine⟨p,(C 5),dp1,_,_,rfl,g1',Z.c_Frame,Z.n_Frame_hands,zbR _ _ _ _,?_⟩
 nofun
 refine zaD (SqT.of tk1) (v:=.int t1) (zan (j:=1) rfl) ?_
 nofun
 refine zbw g2' (j:=t1.toNat) (zcn b1.1 (by rw[zlm,List.length_set];omega)) ?_
 rw[zcE]
 have A2:=A1.setH (xs:=(g.hands.set t0.toNat l0).set t1.toNat l1) rfl
 obtain⟨⟨dp2,k1⟩,k2,k3,_⟩:=A2.fr
 have m2:zaq (zas r ia sa ((p,ha,aa)::fas)) H1 (zas r ia sa ((p,ha,aa)::fas)) (upd H1 ha (.lst (((g.hands.set t0.toNat l0).set t1.toNat l1).map V.int))):=zaq.upd zoo
 generalize upd H1 ha (.lst (((g.hands.set t0.toNat l0).set t1.toNat l1).map V.int))=H2 at *
 nofun
 refine⟨p,(C 5),dp2,_,_,rfl,k1,Z.c_Frame,Z.n_Frame_place,zb1 _ _ _ _,?_⟩
 nofun
 refine⟨p,(C 5),dp2,_,rfl,k1,Z.c_Frame,Z.n_Frame_place,by show 4<1000;decide,?_⟩
 rw[znq]
 have A3:=A2.setP (q:=g.p+1) rfl k1
 refine q _ (m1.trans (m2.trans (zaq.upd zp2))) ?_
 unfold zf1 zgO
 rw[hd]
 exact A3
inductive Q2c (K:Fg) (C:Nat→Addr) (vs:List V) (H:Hp) (Q:VK) (E:XK):Prop
 | mk (r ka ia sa:Addr) (ks:List Int) (cr:Int→Cr) (fas:List Fa) (s:Rs) (kfp:List Addr) (f:Fm) (st:List Fm):vs=[.ref r]→RunX (C 6) (C 5) (C 7) H r ka ia sa ks cr fas s kfp→s.st=f::st→s.en=none→Wf ks cr (f::st)→(∀ H' fas',zaq (zas r ia sa fas) H (zas r ia sa fas') H'→RunX (C 6) (C 5) (C 7) H' r ka ia sa ks cr fas' (zhL cr s f st) kfp→Q .non H')→Q2c K C vs H Q E
theorem zh3 {f:Addr}{fd:FuncData}(B:Bl K mg) {C:Nat→Addr}(Z:Zt K mg C) (Q35:Mth CX0 P w K mg base (C 6) "meets" ["self","word","lines","numbers"] 4 (Q34 K C)) (G_Run_take:Mth CX0 P w K mg base (C 6) "take" ["self","left_0","left_1"] 2 (Q2f K C)) (Q9:Mth CX0 P w K mg base (C 5) "numbers" ["self"] 1 (Q8 K C)) (Q32:Mth CX0 P w K mg base (C 6) "craft_of" ["self","frame"] 1 (Q31 K C)) (F:Fun K "leave" "Run.leave" Q2b f fd) (M:Meth K (C 6) "leave" f):Mth CX0 P w K mg base (C 6) "leave" ["self"] 5 (Q2c K C):=by
 refine⟨f,fd,M,F.ok (k:=4) zeP (λvs H Q E h=>?_) (λcdv A outer s H vs Q E hr h=>?_),F.binds λ_ _ _ _ _ _ us hl=>match us,hl with | [_],_=>rfl⟩
 ·first
  | (obtain⟨_,_,_,_,_,_,_,_,_,_,_,rfl,_⟩:=h;rfl)
 obtain⟨r,ka,ia,sa,ks,cr,fas,s',kfp,f,st,rfl,A',hst,hen,wfs,q⟩:=h
 refine⟨_,(zae (zaA (i:=1) zeP.nd rfl (Or.inl rfl) (zao (k_ix K) (zaI K (pv 0) rfl) (zcX zbM zaa) (λ_ _=>rfl)))
   (zae (zaR (zc9 (zb2 (zbb Q35 Z.c_Run hr za5 (pv 0) (zaf zaJ (zbd (zaI K (zbb Q32 Z.c_Run hr za5 (pv 0) (zac (pv 1) zab)) rfl) (zaL (zby Q9 Z.c_Frame hr za5 (pv 1)) zab)))))) (zag zku) zax)
   (zae (zaW (zm3 PySem.F.plainAttrs_list PySem.F.slot_list_pop PySem.F.type_list_pop zm4 (zaI K (pv 0) rfl)))
   (zag (zaR (zpW K (zaI K (pv 0) rfl)) (zag (zaW (zbb G_Run_take Z.c_Run hr za5 (pv 0) (zaw (zao (k_ix K) (zaI K (pv 1) rfl) zaa (λ_ _=>rfl)) (zaw (zao (k_ix K) (zaI K (pv 1) rfl) zaa (λ_ _=>rfl)) zab))))) (zag (zbk (pv 0) (zaZ (zaf zaJ (zaw (zao (k_ix K) (zaI K (pv 1) rfl) zaa (λ_ _=>rfl)) (zaw (zao (k_ix K) (zaI K (pv 1) rfl) zaa (λ_ _=>rfl)) zab)))) rfl))))))),?_⟩
 have wf:=wfs.1 f List.mem_cons_self
 have rt:=A'.kn.rt f.n wf.m
 obtain⟨dr,ev,hr',_⟩:=A'.ins
 have fr:=A'.fr
 rw[hst] at fr
 cases fas with
 | nil=>exact fr.elim
 | cons t fas=>
 obtain⟨p,ha,aa⟩:=t
 obtain⟨⟨dp,f1⟩,f2,f3,f4⟩:=fr
 nofun
 walk_at "q"
 nofun
 refine⟨r,(C 6),dr,_,_,rfl,hr',Z.c_Run,Z.n_Run_stack,zbo,?_⟩
 nofun
 refine zaF (SqL.of A'.sta) (v:=.ref p) zcD ?_
 nofun
 walk_at "q"
 nofun
 refine⟨r,dr,_,rfl,hr',zbH (by decide +kernel),?_⟩
 nofun
 refine⟨r,dr,_,rfl,hr',zbH (by decide +kernel),?_⟩
 nofun
 refine⟨r,ka,ia,sa,ks,cr,(p,ha,aa)::fas,s',kfp,p,dp,ha,aa,f,rfl,A',f1,wf.m,λo g hC=>?_⟩
 obtain⟨dx,y1,y2,b3,b4,dvs,nvs,ho,_,hL,_⟩:=hC.out (K:=K) rt.nine.d9
 nofun
 refine⟨o,(C 7),dx,_,_,rfl,ho,Z.c_Craft,Z.n_Craft_leaves,zcp _ _ _ _,?_⟩
 nofun
 refine⟨p,dp,_,rfl,f1,zka (by decide +kernel),?_⟩
 nofun
 refine⟨p,dp,ha,aa,f,rfl,f1,f2,f3,wf.h4,wf.a2,λna H1 s1 hna=>?_⟩
 nofun
 refine⟨r,ka,ia,sa,ks,cr,(p,ha,aa)::fas,s',kfp,"leaves",y2,na,_,zbf f,f,st,rfl,A'.same s1,hst,hen,hL.same s1,SqL.of hna,zcT wf,rt.sm.2.1,λH2 o2 A2=>?_⟩
 have m2:zaq (zas r ia sa ((p,ha,aa)::fas)) H (zas r ia sa ((p,ha,aa)::fas)) H2:=(zaq.same s1).trans (zaq.offR o2 A2)
 unfold zhL at q
 cases hb:zav (cr f.n).leaves (zbf f) with
 | some i=>
  rw[hb] at q A2
  dsimp only[Option.isNone]
  nofun
  exact q H2 _ m2 A2
 | none=>
 rw[hb] at q A2
 have A2:RunX (C 6) (C 5) (C 7) H2 r ka ia sa ks cr ((p,ha,aa)::fas) s' kfp:=by
  rw[←Rs.quiet hen];exact A2
 dsimp only[Option.isNone]
 nofun
 obtain⟨dr2,ev2,hr2,_⟩:=A2.ins
 nofun
 walk_at "q"
 nofun
 refine⟨r,(C 6),dr2,_,_,rfl,hr2,Z.c_Run,Z.n_Run_stack,zbo,?_⟩
 nofun
 refine⟨tyL A2.sta,?_⟩
 nofun
 refine zpX A2.sta zlx ?_
 rw[zlw]
 have A3:=A2.pop hst
 have fr2:=A2.fr
 rw[hst] at fr2
 obtain⟨⟨dp2,k1⟩,k2,k3,_⟩:=fr2
 have ns:sa≠p∧sa≠ha:=by
  have:=A2.ndr.2.2.2.2.2.1
  rw[zaz] at this
  simp only[List.mem_cons,not_or] at this
  exact⟨this.1,this.2.1⟩
 have k1:(upd H2 sa (.lst (fas.reverse.map λt=>V.ref t.1))) p=some (.ins (C 5) dp2 (ffl f.n f.p ha aa)):=by rw[zaj ns.1.symm];exact k1
 have k2:(upd H2 sa (.lst (fas.reverse.map λt=>V.ref t.1))) ha=some (.lst (f.hands.map V.int)):=by rw[zaj ns.2.symm];exact k2
 have m3:zaq (zas r ia sa ((p,ha,aa)::fas)) H (zas r ia sa fas) (upd H2 sa (.lst (fas.reverse.map λt=>V.ref t.1))):=m2.trans ((zaq.upd zop).trans (zaq.less zmG))
 generalize upd H2 sa (.lst (fas.reverse.map λt=>V.ref t.1))=H3 at *
 obtain⟨dr3,ev3,hr3,_⟩:=A3.ins
 have e4:=wf.h4
 nofun
 refine⟨r,(C 6),dr3,_,_,rfl,hr3,Z.c_Run,Z.n_Run_stack,zbo,?_⟩
 refine znm (SqL.of A3.sta) ?_
 cases st with
 | nil=>
  cases fas with
  | cons t fas=>exact A3.fr.elim
  | nil=>
  rw[show (!(([]:List Fa).reverse.map λt=>V.ref t.1).isEmpty)=false from rfl]
  nofun
  refine⟨p,(C 5),dp2,_,_,rfl,k1,Z.c_Frame,Z.n_Frame_hands,zbR _ _ _ _,?_⟩
  nofun
  refine zaF (SqL.of k2) (zcc (k:=0) (by decide) (by omega)) ?_
  nofun
  refine⟨p,(C 5),dp2,_,_,rfl,k1,Z.c_Frame,Z.n_Frame_hands,zbR _ _ _ _,?_⟩
  nofun
  refine zaF (SqL.of k2) (zcc (k:=1) (by decide) (by omega)) ?_
  nofun
  refine⟨(by walk_at "sm"),λT hT=>?_⟩
  have t4:=zah hT (.tup (ziH f))
  nofun
  refine⟨r,(C 6),dr3,_,rfl,t4 _ _ hr3,Z.c_Run,Z.n_Run_ending,by show 5<1000;decide,?_⟩
  rw[zcq]
  exact q _ [] (m3.trans ((zaq.same t4).trans (zaq.upd zgt))) ((A3.same t4).setR (k':=s'.k) (en':=some (ziH f)) (t4 _ _ hr3) ⟨T,rfl,zad⟩)
 | cons g st=>
  cases fas with
  | nil=>exact A3.fr.elim
  | cons t fas=>
  have et:(!((t::fas).reverse.map λt=>V.ref t.1).isEmpty)=true:=by simp
  rw[et]
  nofun
  refine⟨r,dr3,_,rfl,hr3,zbH (by decide +kernel),?_⟩
  nofun
  refine⟨p,(C 5),dp2,_,_,rfl,k1,Z.c_Frame,Z.n_Frame_hands,zbR _ _ _ _,?_⟩
  nofun
  refine zaF (SqL.of k2) (zcc (k:=0) (by decide) (by omega)) ?_
  nofun
  refine⟨p,(C 5),dp2,_,_,rfl,k1,Z.c_Frame,Z.n_Frame_hands,zbR _ _ _ _,?_⟩
  nofun
  refine zaF (SqL.of k2) (zcc (k:=1) (by decide) (by omega)) ?_
  nofun
  refine⟨r,ka,ia,sa,ks,cr,t::fas,_,kfp,g,st,_,_,rfl,A3,rfl,wfs.1 g (by simp),wfs.2 g (by simp),λH4 m4 A4=>?_⟩
  nofun
  exact q H4 _ (m3.trans m4) A4
inductive Q29 (K:Fg) (C:Nat→Addr) (vs:List V) (H:Hp) (Q:VK) (E:XK):Prop
 | mk (r ka ia sa:Addr) (ks:List Int) (cr:Int→Cr) (fas:List Fa) (s:Rs) (kfp:List Addr) (f:Fm) (st:List Fm):vs=[.ref r]→RunX (C 6) (C 5) (C 7) H r ka ia sa ks cr fas s kfp→s.st=f::st→s.en=none→WfF ks cr f→f.p<((cr f.n).deeds.length:Int)→(cr f.n).Rt→(∀ H',OffA [r] H H'→RunX (C 6) (C 5) (C 7) H' r ka ia sa ks cr fas {s with en:=zch cr f} kfp→Q .non H')→Q29 K C vs H Q E
theorem zeF {f:Addr}{fd:FuncData}(B:Bl K mg) {C:Nat→Addr}(Z:Zt K mg C) (Q35:Mth CX0 P w K mg base (C 6) "meets" ["self","word","lines","numbers"] 4 (Q34 K C)) (Q9:Mth CX0 P w K mg base (C 5) "numbers" ["self"] 1 (Q8 K C)) (Q32:Mth CX0 P w K mg base (C 6) "craft_of" ["self","frame"] 1 (Q31 K C)) (F:Fun K "meet_notes" "Run.meet_notes" Q28 f fd) (M:Meth K (C 6) "meet_notes" f):Mth CX0 P w K mg base (C 6) "meet_notes" ["self"] 5 (Q29 K C):=by
 refine⟨f,fd,M,F.ok (k:=4) zcU (λvs H Q E h=>?_) (λcdv A outer s H vs Q E hr h=>?_),F.binds λ_ _ _ _ _ _ us hl=>match us,hl with | [_],_=>rfl⟩
 ·first
  | (obtain⟨_,_,_,_,_,_,_,_,_,_,_,rfl,_⟩:=h;rfl)
 obtain⟨r,ka,ia,sa,ks,cr,fas,s',kfp,f,st,rfl,A',hst,hen,wf,hp,rt,q⟩:=h
 refine⟨_,(zae (zaA (i:=1) zcU.nd rfl (Or.inl rfl) (zao (k_ix K) (zaI K (pv 0) rfl) (zcX zbM zaa) (λ_ _=>rfl)))
   (zag (zaW (zbb Q35 Z.c_Run hr za5 (pv 0) (zaf zaJ (zaw (zao (k_ix K) (zaI K (zbb Q32 Z.c_Run hr za5 (pv 0) (zac (pv 1) zab)) rfl) (zaI K (pv 1) rfl) (λ_ _=>rfl)) (zaL (zby Q9 Z.c_Frame hr za5 (pv 1)) zab))))))),?_⟩
 obtain⟨dr,ev,hr',_⟩:=A'.ins
 have fr:=A'.fr
 rw[hst] at fr
 cases fas with
 | nil=>exact fr.elim
 | cons t fas=>
 obtain⟨p,ha,aa⟩:=t
 obtain⟨⟨dp,f1⟩,f2,f3,_⟩:=fr
 walk_at "q"
 nofun
 refine⟨r,(C 6),dr,_,_,rfl,hr',Z.c_Run,Z.n_Run_stack,zbo,?_⟩
 nofun
 refine zaF (SqL.of A'.sta) (v:=.ref p) zcD ?_
 nofun
 refine⟨r,dr,_,rfl,hr',zbH (by decide +kernel),?_⟩
 nofun
 refine⟨r,dr,_,rfl,hr',zbH (by decide +kernel),?_⟩
 nofun
 refine⟨r,ka,ia,sa,ks,cr,(p,ha,aa)::fas,s',kfp,p,dp,ha,aa,f,rfl,A',f1,wf.m,λo g hC=>?_⟩
 obtain⟨dx,y1,y2,b3,b4,dvs,nvs,ho,_,_,h3,hD,h4,hN⟩:=hC.out (K:=K) rt.nine.d9
 have hp0:=wf.p0
 have ln:f.p.toNat<(cr f.n).notes.length:=by rw[rt.parts.2.2.2.1];omega
 have ln':f.p.toNat<nvs.length:=by rw[←hN.1];exact ln
 obtain⟨la,hx,hL⟩:=hN.2 f.p.toNat _ _ (List.getElem?_eq_getElem ln) (List.getElem?_eq_getElem ln')
 nofun
 refine⟨o,(C 7),dx,_,_,rfl,ho,Z.c_Craft,Z.n_Craft_notes,zdE _ _ _ _,?_⟩
 nofun
 refine⟨p,(C 5),dp,_,_,rfl,f1,Z.c_Frame,Z.n_Frame_place,zb1 _ _ _ _,?_⟩
 nofun
 refine zaF (SqL.of h4) (v:=.ref la) (zft hp0 (by rw[List.getElem?_eq_getElem ln',hx])) ?_
 nofun
 refine⟨p,dp,_,rfl,f1,zka (by decide +kernel),?_⟩
 nofun
 refine⟨p,dp,ha,aa,f,rfl,f1,f2,f3,wf.h4,wf.a2,λna H1 s1 hna=>?_⟩
 refine⟨r,ka,ia,sa,ks,cr,(p,ha,aa)::fas,s',kfp,"notes",la,na,_,zbf f,f,st,rfl,A'.same s1,hst,hen,hL.same s1,SqL.of hna,zcT wf,rt.sm.2.2 _ (List.getElem_mem ln),λH2 o2 A2=>?_⟩
 refine q H2 (s1.offA.trans o2) ?_
 unfold zch
 rw[show (cr f.n).notes.getD f.p.toNat []=(cr f.n).notes[f.p.toNat] by rw[List.getD_eq_getElem?_getD,List.getElem?_eq_getElem ln];rfl]
 exact A2
inductive Q23 (K:Fg) (C:Nat→Addr) (vs:List V) (H:Hp) (Q:VK) (E:XK):Prop
 | mk (r ka ia sa:Addr) (ks:List Int) (cr:Int→Cr) (fas:List Fa) (s:Rs) (kfp:List Addr) (f:Fm) (st:List Fm) (j:Int):vs=[.ref r,.int j]→RunX (C 6) (C 5) (C 7) H r ka ia sa ks cr fas s kfp→s.st=f::st→s.en=none→Wf ks cr ({f with p:=j}::st)→(∀ H' fas',zaq (zas r ia sa fas) H (zas r ia sa fas') H'→RunX (C 6) (C 5) (C 7) H' r ka ia sa ks cr fas' (zca cr s {f with p:=j} st) kfp→Q .non H')→Q23 K C vs H Q E
theorem zf9 {f:Addr}{fd:FuncData}(B:Bl K mg) {C:Nat→Addr}(Z:Zt K mg C) (Q27:Mth CX0 P w K mg base (C 6) "is_behind_last_deed" ["self"] 2 (Q26 K C)) (Q2d:Mth CX0 P w K mg base (C 6) "leave" ["self"] 5 (Q2c K C)) (Q2a:Mth CX0 P w K mg base (C 6) "meet_notes" ["self"] 5 (Q29 K C)) (F:Fun K "come_to" "Run.come_to" Q22 f fd) (M:Meth K (C 6) "come_to" f):Mth CX0 P w K mg base (C 6) "come_to" ["self","place"] 6 (Q23 K C):=by
 refine⟨f,fd,M,F.ok (k:=5) zdQ (λvs H Q E h=>?_) (λcdv A outer s H vs Q E hr h=>?_),F.binds λ_ _ _ _ _ _ us hl=>match us,hl with | [_,_],_=>rfl⟩
 ·first
  | (obtain⟨_,_,_,_,_,_,_,_,_,_,_,_,rfl,_⟩:=h;rfl)
 obtain⟨r,ka,ia,sa,ks,cr,fas,s',kfp,f,st,j,rfl,A',hst,hen,wfs,q⟩:=h
 refine⟨_,(zae (zaA (i:=2) zdQ.nd rfl (Or.inl rfl) (zao (k_ix K) (zaI K (pv 0) rfl) (zcX zbM zaa) (λ_ _=>rfl)))
   (zae (zbk (pv 2) (pv 1) rfl)
   (zae (zgA PassesOwn.never (PW.pt (zks (zau zfd (zaI K (pv 0) rfl) zcN (zay _)) (zij (zb2 (zby Q27 Z.c_Run hr za5 (pv 0)))))) (zag (zaW (zby Q2d Z.c_Run hr za5 (pv 0)))))
   (zag (zaR (zau zfd (zaI K (pv 0) rfl) zcN (zay _)) (zag (zaW (zby Q2a Z.c_Run hr za5 (pv 0)))) zax))))),?_⟩
 obtain⟨dr,ev,hr',_⟩:=A'.ins
 have fr:=A'.fr
 rw[hst] at fr
 cases fas with
 | nil=>exact fr.elim
 | cons t fas=>
 obtain⟨p,ha,aa⟩:=t
 obtain⟨⟨dp,f1⟩,f2,f3,f4⟩:=fr
 nofun
 walk_at "q"
 nofun
 refine⟨r,(C 6),dr,_,_,rfl,hr',Z.c_Run,Z.n_Run_stack,zbo,?_⟩
 nofun
 refine zaF (SqL.of A'.sta) (v:=.ref p) zcD ?_
 nofun
 walk_at "q"
 nofun
 refine⟨p,(C 5),dp,_,rfl,f1,Z.c_Frame,Z.n_Frame_place,by show 4<1000;decide,?_⟩
 rw[znq]
 have A1:=A'.setP (q:=j) hst f1
 have m1:zaq (zas r ia sa ((p,ha,aa)::fas)) H (zas r ia sa ((p,ha,aa)::fas)) (upd H p (.ins (C 5) dp (ffl f.n j ha aa))):=zaq.upd zp2
 generalize upd H p (.ins (C 5) dp (ffl f.n j ha aa))=H1 at *
 nofun
 with_reducible refine zee (λσ H2=>σ=[some (.ref r),some (.int j),some (.ref p)]∧∃ fas2 s2,zdb ks cr s' {f with p:=j} st s2∧zaq (zas r ia sa ((p,ha,aa)::fas)) H (zas r ia sa fas2) H2∧RunX (C 6) (C 5) (C 7) H2 r ka ia sa ks cr fas2 s2 kfp∧(s2.en=none→∃ g r,s2.st=g::r∧Wf ks cr (g::r)∧¬ g.p=((cr g.n).deeds.length:Int))) (λNX tail=>?_) ?_
 ·refine⟨λm σ H2=>σ=[some (.ref r),some (.int j),some (.ref p)]∧∃ fas2 s2,m=meaR s2∧zdb ks cr s' {f with p:=j} st s2∧zaq (zas r ia sa ((p,ha,aa)::fas)) H (zas r ia sa fas2) H2∧RunX (C 6) (C 5) (C 7) H2 r ka ia sa ks cr fas2 s2 kfp,⟨_,rfl,_,({s' with st:={f with p:=j}::st} : Rs),rfl,⟨rfl,rfl,.inl ⟨hen,_,_,rfl,wfs,rfl⟩⟩,m1,A1⟩,?_⟩
  rintro m σ H2 ⟨rfl,fas2,s2,rfl,cm,m2,A2⟩
  obtain⟨dr2,ev2,hr2,en2⟩:=A2.ins
  have en2:=en2.none_iff
  nofun
  refine⟨r,(C 6),dr2,_,_,rfl,hr2,Z.c_Run,Z.n_Run_ending,zdu,?_⟩
  nofun
  refine⟨rfl,?_⟩
  rw[en2]
  nofun
  cases he:s2.en with
  | some x=>
   dsimp only[Option.isNone]
   nofun
   exact tail _ _ ⟨rfl,_,_,cm,m2,A2,λz=>by rw[he] at z;cases z⟩
  | none=>
  obtain⟨g,r2,hs2,w2⟩:=cm.top he
  dsimp only[Option.isNone]
  nofun
  refine⟨r,dr2,_,rfl,hr2,zbH (by decide +kernel),?_⟩
  nofun
  refine⟨r,ka,ia,sa,ks,cr,fas2,s2,kfp,g,r2,rfl,A2,hs2,w2.1 g List.mem_cons_self,A2.kn.rt g.n (w2.1 g List.mem_cons_self).m,?_⟩
  by_cases hp:g.p=((cr g.n).deeds.length:Int)
  ·rw[decide_eq_true hp]
   nofun
   refine⟨λσ H3=>σ=[some (.ref r),some (.int j),some (.ref p)]∧∃ fas3 s3,meaR s3<meaR s2∧zdb ks cr s' {f with p:=j} st s3∧zaq (zas r ia sa ((p,ha,aa)::fas)) H (zas r ia sa fas3) H3∧RunX (C 6) (C 5) (C 7) H3 r ka ia sa ks cr fas3 s3 kfp,λσ' H' ⟨e,fas3,s3,lt,z⟩=>⟨_,lt,e,fas3,s3,rfl,z⟩,?_⟩
   nofun
   refine⟨r,dr2,_,rfl,hr2,zbH (by decide +kernel),?_⟩
   nofun
   refine⟨r,ka,ia,sa,ks,cr,fas2,s2,kfp,g,r2,rfl,A2,hs2,he,w2,λH3 fas3 m3 A3=>?_⟩
   nofun
   obtain⟨c3,l3⟩:=cm.leave he hs2 hp
   exact⟨rfl,fas3,_,l3,c3,m2.trans m3,A3⟩
  ·rw[decide_eq_false hp]
   nofun
   exact tail _ _ ⟨rfl,_,_,cm,m2,A2,λ_=>⟨g,r2,hs2,w2,hp⟩⟩
 ·rintro σ H2 ⟨rfl,fas2,s2,cm,m2,A2,on⟩
  obtain⟨dr2,ev2,hr2,en2⟩:=A2.ins
  have en2:=en2.none_iff
  nofun
  refine⟨r,(C 6),dr2,_,_,rfl,hr2,Z.c_Run,Z.n_Run_ending,zdu,?_⟩
  nofun
  refine⟨rfl,?_⟩
  rw[en2]
  nofun
  cases he:s2.en with
  | some x=>
   dsimp only[Option.isNone]
   nofun
   refine q H2 fas2 m2 ?_
   rw[←cm.ended (by rw[he];intro z;cases z)]
   exact A2
  | none=>
  obtain⟨g,r2,hs2,w2,hp⟩:=on he
  dsimp only[Option.isNone]
  nofun
  refine⟨r,dr2,_,rfl,hr2,zbH (by decide +kernel),?_⟩
  nofun
  have wg:=w2.1 g List.mem_cons_self
  refine⟨r,ka,ia,sa,ks,cr,fas2,s2,kfp,g,r2,rfl,A2,hs2,he,wg,by have:=wg.pn;omega,A2.kn.rt g.n wg.m,λH3 o3 A3=>?_⟩
  nofun
  refine q H3 fas2 (m2.trans (zaq.offR o3 A3)) ?_
  rw[←cm.stay he hs2 hp]
  exact A3
inductive Q20 (K:Fg) (C:Nat→Addr) (vs:List V) (H:Hp) (Q:VK) (E:XK):Prop
 | mk (r ka ia sa:Addr) (ks:List Int) (cr:Int→Cr) (fas:List Fa) (s:Rs) (kfp:List Addr) (g:Addr) (n a0 a1:Int):vs=[.ref r,.int n,.ref g]→RunX (C 6) (C 5) (C 7) H r ka ia sa ks cr fas s kfp→(SqL K H g [.int a0,.int a1]∨SqT K H g [.int a0,.int a1])→s.en=none→Wf ks cr (zbq n a0 a1::s.st)→s.st.length<20→(∀ H' fas',zaq (zas r ia sa fas) H (zas r ia sa fas') H'→RunX (C 6) (C 5) (C 7) H' r ka ia sa ks cr fas' (zca cr s (zbq n a0 a1) s.st) kfp→Q .non H')→Q20 K C vs H Q E
theorem zh4 {f:Addr}{fd:FuncData}(B:Bl K mg) {C:Nat→Addr}(Z:Zt K mg C) (Q24:Mth CX0 P w K mg base (C 6) "come_to" ["self","place"] 6 (Q23 K C)) (M_Frame:Mkr P w K mg base "Frame" (C 5) ["self","number","asked"] 1 (Q6 K C)) (F:Fun K "begin" "Run.begin" Q1f f fd) (M:Meth K (C 6) "begin" f):Mth CX0 P w K mg base (C 6) "begin" ["self","number","given"] 7 (Q20 K C):=by
 refine⟨f,fd,M,F.ok (k:=6) zhV (λvs H Q E h=>?_) (λcdv A outer s H vs Q E hr h=>?_),F.binds λ_ _ _ _ _ _ us hl=>match us,hl with | [_,_,_],_=>rfl⟩
 ·first
  | (obtain⟨_,_,_,_,_,_,_,_,_,_,_,_,_,rfl,_⟩:=h;rfl)
 obtain⟨r,ka,ia,sa,ks,cr,fas,s',kfp,g,n,a0,a1,rfl,A',hg,hen,wfs,l20,q⟩:=h
 refine⟨_,(zae (zaW (zjP PySem.F.plainAttrs_list PySem.F.slot_list_append PySem.F.type_list_append zdh (zaI K (pv 0) rfl) (zaL (zn4 M_Frame hr rfl (zac (pv 1) (zac (pv 2) zab))) zab)))
   (zag (zaW (zbb Q24 Z.c_Run hr za5 (pv 0) (zaf zaa zab))))),?_⟩
 obtain⟨dr,ev,hr',_⟩:=A'.ins
 have fl:=A'.fr.len
 nofun
 walk_at "q"
 nofun
 refine⟨r,(C 6),dr,_,_,rfl,hr',Z.c_Run,Z.n_Run_stack,zbo,?_⟩
 nofun
 refine⟨tyL A'.sta,?_⟩
 nofun
 intro y dy hy hdy ndy
 have sm:Same H (upd (upd H dy (.own y)) y (.ins (C 5) dy [])):=λb o e=>by
  rw[zaj (zam e hy),zaj (zam e hdy)];exact e
 refine⟨y,dy,g,n,a0,a1,rfl,zad,zeE sm.sq hg,λha aa H1 ha0 aa0 nha o1 hp1 hh1 haa1=>⟨rfl,?_⟩⟩
 have s1:Same H H1:=λb o e=>o1 b o (λz=>by rw[zms.mp z,hy] at e;cases e) (sm b o e)
 have ny:y≠ha∧y≠aa:=⟨λz=>(by rw[←z,zad] at ha0;cases ha0),λz=>(by rw[←z,zad] at aa0;cases aa0)⟩
 have A2:=A'.push (f:=zbq n a0 a1) s1 hy (sm.free ha0) (sm.free aa0) ny.1 ny.2 nha A'.kn.has hp1 hh1 haa1
 have m2:zaq (zas r ia sa fas) H (zas r ia sa ((y,ha,aa)::fas)) (upd H1 sa (.lst ((fas.reverse.map λt=>V.ref t.1)++[.ref y]))):=zaq.push s1 hy (sm.free ha0) (sm.free aa0)
 nofun
 refine zmp (s1 _ _ A'.sta) (zb3 (by rw[zlm,List.length_reverse];omega)) ?_
 generalize upd H1 sa (.lst ((fas.reverse.map λt=>V.ref t.1)++[.ref y]))=H2 at *
 obtain⟨dr2,ev2,hr2,_⟩:=A2.ins
 nofun
 refine⟨r,dr2,_,rfl,hr2,zbH (by decide +kernel),?_⟩
 nofun
 refine⟨r,ka,ia,sa,ks,cr,(y,ha,aa)::fas,_,kfp,zbq n a0 a1,s'.st,0,rfl,A2,rfl,hen,wfs,λH3 fas3 m3 A3=>?_⟩
 nofun
 exact q H3 fas3 (m2.trans m3) A3
inductive Q3a (K:Fg) (vs:List V) (H:Hp) (Q:VK) (E:XK):Prop
 | mk (g:Addr) (a0 a1:Int):vs=[.ref g]→(SqL K H g [.int a0,.int a1]∨SqT K H g [.int a0,.int a1])→(∀ na H',Same H H'→H' na=some (.lst ((zcB a0 a1).map V.int))→Q (.ref na) H')→Q3a K vs H Q E
theorem ze0 {f:Addr}{fd:FuncData}(B:Bl K mg) {C:Nat→Addr}(Z:Zt K mg C)  (F:Fun K "asked_numbers" "asked_numbers" Q39 f fd) (m:mg "asked_numbers"=some (.ref f)):Fn P w K mg base "asked_numbers" ["asked"] 1 (Q3a K):=by
 refine Fn.of (k:=0) F zeV m (λ_ _ _ _ _ _ us hl=>match us,hl with | [_],_=>rfl) (λvs H Q E h=>?_) (λcdv A outer s H vs Q E hr h=>?_)
 ·first
  | (obtain⟨_,_,_,rfl,_⟩:=h;rfl)
 obtain⟨g,a0,a1,rfl,hg,q⟩:=h
 refine⟨_,(zag (zar (za3 (zaf zaa (zaf zaa (zaf zaa (zaf zaa (zaw (zao (k_ix K) (pv 0) zaa (λ_ _=>rfl)) (zaw (zao (k_ix K) (pv 0) zaa (λ_ _=>rfl)) (zaf zaa (zaf zaa zab))))))))))),?_⟩
 nofun
 refine ziL hg ?_
 nofun
 refine ziM hg ?_
 nofun
 exact⟨(by walk_at "sm"),λp hp=>q _ _ (zah hp _) zad⟩
inductive Qb (K:Fg) (C:Nat→Addr) (vs:List V) (H:Hp) (Q:VK) (E:XK):Prop
 | mk (p dx ha la va g ia0:Addr) (n a0 a1:Int) (ks:List Int) (cr:Int→Cr) (ws:List Int) (fp:List Addr) (ins:List Int):vs=[.ref p,.ref ha,.int n,.ref g,.ref ia0]→H p=some (.ins (C 6) dx [])→HAt (C 8) (C 7) H ha la va ks cr ws fp→(SqL K H g [.int a0,.int a1]∨SqT K H g [.int a0,.int a1])→SqL K H ia0 (ins.map V.int)→n.natAbs<zb9→(n∉ks→∀ H',OffA [p] H H'→E (.ref (C 2)) none H')→(n∈ks→zav (cr n).needs (zcB a0 a1)≠none→∀ H',OffA [p] H H'→E (.ref (C 4)) none H')→(n∈ks→zav (cr n).needs (zcB a0 a1)=none→∀ H' ka ia sa fas kfp ns,zaq [p] H (zas p ia sa fas) H'→RunX (C 6) (C 5) (C 7) H' p ka ia sa ns cr fas (zca cr ⟨[],ins,0,none⟩ (zbq n a0 a1) []) kfp→ns.Perm ks→(∀ b∈ka::kfp,H b=none)→Q .non H')→Qb K C vs H Q E
theorem zjw {S:List Addr}{H:Hp}{b:Addr}{o:HO}(h:H b=none):OffA S H (upd H b o):=(zah h o).offA
theorem zqc {f:Addr}{fd:FuncData}(B:Bl K mg) {C:Nat→Addr}(Z:Zt K mg C) (Q77:Mth CX0 P w K mg base (C 8) "crafts" ["self"] 5 (Q76 K C)) (Q21:Mth CX0 P w K mg base (C 6) "begin" ["self","number","given"] 7 (Q20 K C)) (Q38:Fn P w K mg base "first_unmet" ["lines","numbers"] 3 (Q37 K)) (Q3b:Fn P w K mg base "asked_numbers" ["asked"] 1 (Q3a K)) (F:Fun K "__init__" "Run.__init__" Qa f fd) (M:Mk K (C 6) f):Mkx P w K mg base "Run" (C 6) ["self","hall","number","given","inputs"] 8 (Qb K C):=by
 refine⟨f,fd,M,F.okx (k:=7) zfF (λvs H Q E h=>?_) (λcdv A outer s H vs Q E hr h=>?_),F.binds λ_ _ _ _ _ _ us hl=>match us,hl with | [_,_,_,_,_],_=>rfl,Z.m_Run⟩
 ·first
  | (obtain⟨_,_,_,_,_,_,_,_,_,_,_,_,_,_,_,rfl,_⟩:=h;rfl)
 obtain⟨p,dx,ha,la,va,g,ia0,n,a0,a1,ks,cr,ws,fp,ins,rfl,hp,hA,hg,hin,hn,q1,q2,q3⟩:=h
 refine⟨_,(zae (zbk (pv 0) (zby Q77 Z.c_Hall hr za5 (pv 1)) rfl)
   (zae (zbk (pv 0) (zcl (zhr K) rfl B.list L2.zb4 (zac (pv 4) zab)) rfl)
   (zae (zbk (pv 0) (za3 zab) rfl)
   (zae (zbk (pv 0) zaa rfl)
   (zae (zbk (pv 0) zcN rfl)
   (zae (zaR (zg5 (zfh (hr_u hr) (pv 2) (zaI K (pv 0) rfl))) (zag (zgM Z.e_NoCraft rfl Z.m_NoCraft rfl ziw (zbN (znl (pv 2) (by decide +kernel)) zab))) zax)
   (zae (zaR (zau zkC (zat Q38 hr rfl (zbd (zaI K (zcH (hr_u hr) (zaI K (pv 0) rfl) (pv 2) (λ_ _=>rfl)) rfl) (zaL (zat Q3b hr rfl (zac (pv 3) zab)) zab))) zcN (zay _)) (zag (zgM Z.e_Unfit rfl Z.m_Unfit rfl ziw (zbN (znl (pv 2) (by decide +kernel)) zab))) zax)
   (zag (zaW (zbb Q21 Z.c_Run hr za5 (pv 0) (zac (pv 2) (zac (pv 3) zab)))))))))))),?_⟩
 obtain⟨dh,hh⟩:=hA.ins
 nofun
 walk_at "q"
 nofun
 refine⟨ha,dh,_,rfl,hh,ziF (by decide +kernel) (by decide +kernel),?_⟩
 nofun
 refine⟨ha,la,va,ks,cr,ws,fp,rfl,hA,λca H1 kvs ns F s1 ca0 hca pm so hk f0 fn fd=>?_⟩
 nofun
 have p1:=s1 _ _ hp
 refine⟨p,(C 6),dx,[],rfl,p1,Z.c_Run,Z.n_Run_known,by show 0<1000;decide,?_⟩
 have sq:∀ {H H':Hp}{fs:List (Str × V)},H p=some (.ins (C 6) dx fs)→OffA [p] H H'→Sq H H':=λ{H H' fs} e o b u eu su=>o b u (λz=>by rw[zms.mp z,e] at eu;cases eu;cases su) eu
 have o1:OffA [p] H1 (upd H1 p (.ins (C 6) dx (putF "known" (.ref ca) []))):=zbn (by simp)
 have p2:(upd H1 p (.ins (C 6) dx (putF "known" (.ref ca) []))) p=some (.ins (C 6) dx (putF "known" (.ref ca) [])):=zad
 generalize upd H1 p (.ins (C 6) dx (putF "known" (.ref ca) []))=H2 at *
 nofun
 walk_at "q"
 nofun
 refine zeb (.inl ((sq p1 o1).lst (s1.seq hin))) λia ia0'=>?_
 have nia:ia≠p:=(zam p2 ia0').symm
 nofun
 refine⟨p,(C 6),dx,_,rfl,by rw[zaj nia.symm];exact p2,Z.c_Run,Z.n_Run_inputs_left,Nat.lt_of_lt_of_le (zaU (n:=1) (by decide)) (by decide),?_⟩
 have o3:OffA [p] H1 (upd (upd H2 ia (.lst (ins.map V.int))) p (.ins (C 6) dx (putF "inputs_left" (.ref ia) (putF "known" (.ref ca) [])))):=o1.trans ((zjw ia0').trans (zbn (by simp)))
 have p3:(upd (upd H2 ia (.lst (ins.map V.int))) p (.ins (C 6) dx (putF "inputs_left" (.ref ia) (putF "known" (.ref ca) [])))) p=some (.ins (C 6) dx (putF "inputs_left" (.ref ia) (putF "known" (.ref ca) []))):=zad
 have i3:(upd (upd H2 ia (.lst (ins.map V.int))) p (.ins (C 6) dx (putF "inputs_left" (.ref ia) (putF "known" (.ref ca) [])))) ia=some (.lst (ins.map V.int)):=by rw[zaj nia,zad]
 generalize upd (upd H2 ia (.lst (ins.map V.int))) p (.ins (C 6) dx (putF "inputs_left" (.ref ia) (putF "known" (.ref ca) [])))=H3 at *
 nofun
 walk_at "q"
 nofun
 refine⟨(by walk_at "sm"),λsa sa0=>?_⟩
 have nsa:sa≠p:=(zam p3 sa0).symm
 have nis:ia≠sa:=zam i3 sa0
 nofun
 refine⟨p,(C 6),dx,_,rfl,by rw[zaj nsa.symm];exact p3,Z.c_Run,Z.n_Run_stack,Nat.lt_of_lt_of_le (zaU (n:=2) (zaU (n:=1) (by decide))) (by decide),?_⟩
 nofun
 walk_at "q"
 nofun
 refine⟨p,(C 6),dx,_,rfl,zad,Z.c_Run,Z.n_Run_steps_done,Nat.lt_of_lt_of_le (zaU (n:=3) (zaU (n:=2) (zaU (n:=1) (by decide)))) (by decide),?_⟩
 nofun
 walk_at "q"
 nofun
 refine⟨p,(C 6),dx,_,rfl,zad,Z.c_Run,Z.n_Run_ending,Nat.lt_of_lt_of_le (zaU (n:=4) (zaU (n:=3) (zaU (n:=2) (zaU (n:=1) (by decide))))) (by decide),?_⟩
 rw[zom]
 generalize hH6:upd (upd (upd (upd H3 sa (.lst [])) p (.ins (C 6) dx (putF "stack" (.ref sa) (putF "inputs_left" (.ref ia) (putF "known" (.ref ca) []))))) p (.ins (C 6) dx (putF "steps_done" (.int 0) (putF "stack" (.ref sa) (putF "inputs_left" (.ref ia) (putF "known" (.ref ca) [])))))) p (.ins (C 6) dx (rfls ca ia sa 0 .non))=H6
 have o6:OffA [p] H1 H6:=by
  rw[←hH6]
  exact o3.trans ((zjw sa0).trans ((zbn (by simp)).trans ((zbn (by simp)).trans (zbn (by simp)))))
 have p6:H6 p=some (.ins (C 6) dx (rfls ca ia sa 0 .non)):=by rw[←hH6,zad]
 have i6:H6 ia=some (.lst (ins.map V.int)):=by rw[←hH6,zaj nia,zaj nia,zaj nia,zaj nis];exact i3
 have s6:H6 sa=some (.lst []):=by rw[←hH6,zaj nsa,zaj nsa,zaj nsa,zad]
 clear hH6
 have ia1:H1 ia=none:=by
  cases e:H1 ia with
  | none=>rfl
  | some o=>rw[o1 ia o (by simp[nia]) e] at ia0';cases ia0'
 have sa1:H1 sa=none:=by
  cases e:H1 sa with
  | none=>rfl
  | some o=>rw[o3 sa o (by simp[nsa]) e] at sa0;cases sa0
 have nF:∀ m∈ns,∀ b∈F m,b≠p∧∃ o,H1 b=some o:=λm hm b hb=>by
  obtain⟨v,_,p',_,hC⟩:=hk.2.2 m hm
  exact⟨λz=>(by have:=f0 m hm b hb;rw[z,hp] at this;cases this),hC.has b hb⟩
 have tk:Tups H1 H6:=λb xs e=>o6 b _ (λz=>by rw[zms.mp z,p1] at e;cases e) e
 have kn:KnownAt (C 7) H6 ca ns cr (ns.flatMap F):=⟨⟨kvs,o6 _ _ (by simp[zam hp ca0 |>.symm]) hca,hk.1,hk.2.1,λm hm=>by
  obtain⟨v,e,p',rfl,hC⟩:=hk.2.2 m hm
  exact⟨_,e,p',F m,rfl,hC.frame tk λb hb o ho=>o6 b o (by simp[(nF m hm b hb).1]) ho,λb hb=>List.mem_flatMap.mpr ⟨m,hm,hb⟩⟩⟩,λm hm=>hA.rt m (pm.mem_iff.mp hm),λb hb=>by
   obtain⟨m,hm,hb⟩:=List.mem_flatMap.mp hb
   obtain⟨nb,o,ho⟩:=nF m hm b hb
   exact⟨o,o6 b o (by simp[nb]) ho⟩⟩
 have A6:RunX (C 6) (C 5) (C 7) H6 p ca ia sa ns cr [] ⟨[],ins,0,none⟩ (ns.flatMap F):=by
  refine⟨⟨dx,.non,p6,rfl⟩,kn,i6,s6,trivial,?_,λb hb=>?_⟩
  ·simp only[zas,fasL,List.flatMap_nil,List.nodup_cons,List.mem_cons,List.not_mem_nil,or_false,not_or,not_false_eq_true,List.nodup_nil,and_true]
   exact⟨⟨nia.symm,nsa.symm⟩,nis⟩
  ·intro z
   obtain⟨m,hm,z⟩:=List.mem_flatMap.mp z
   obtain⟨nb,o,ho⟩:=nF m hm b z
   simp only[zas,fasL,List.flatMap_nil,List.mem_cons,List.not_mem_nil,or_false] at hb
   rcases hb with rfl | rfl | rfl
   ·exact nb rfl
   ·rw[ia1] at ho;cases ho
   ·rw[sa1] at ho;cases ho
 have o06:OffA [p] H H6:=s1.offA.trans o6
 have m06:zaq [p] H (zas p ia sa []) H6:=⟨o06,λb hb=>by
  simp only[zas,fasL,List.flatMap_nil,List.mem_cons,List.not_mem_nil,or_false] at hb
  rcases hb with rfl | rfl | rfl
  ·exact .inl (by simp)
  ·exact .inr (s1.free ia1)
  ·exact .inr (s1.free sa1),zjt o06 λb hb=>by rw[zms.mp hb];exact⟨_,p6⟩⟩
 nofun
 walk_at "q"
 nofun
 refine⟨p,(C 6),dx,_,_,rfl,p6,Z.c_Run,Z.n_Run_known,zej,?_⟩
 by_cases hm:n∈ks
 ·have hm':n∈ns:=pm.mem_iff.mpr hm
  obtain⟨kvs',o,g1,e1,e2,e3⟩:=kn.craft hm'
  refine⟨ca,some (.ref o),rfl,by rw[←e2];exact DGet.k (k:=.inl n) e1,?_⟩
  dsimp only[Option.isSome]
  nofun
  have rtm:=kn.rt n hm'
  obtain⟨dc,y1,y2,b3,b4,dvs,nvs,ho,hL,_⟩:=e3.out (K:=K) rtm.nine.d9
  have hg6:=zeE ((s1.sq).trans (sq p1 o6)) hg
  nofun
  walk_at "q"
  nofun
  refine⟨p,(C 6),dx,_,_,rfl,p6,Z.c_Run,Z.n_Run_known,zej,?_⟩
  nofun
  refine⟨ca,.ref o,rfl,by rw[←e2];exact DGet.k (k:=.inl n) e1,?_⟩
  nofun
  refine⟨o,(C 7),dc,_,_,rfl,ho,Z.c_Craft,Z.n_Craft_needs,zcA _ _ _ _,?_⟩
  nofun
  refine⟨g,a0,a1,rfl,hg6,λna H7 s7 hna=>?_⟩
  nofun
  refine zlI (hL.same s7) (SqL.of hna) rfl rtm.sm.1 λH8 s8=>?_
  have s68:=s7.trans s8
  nofun
  cases hb:zav (cr n).needs (zcB a0 a1) with
  | some i=>
   refine⟨rfl,?_⟩
   show ∃ k,V.bl (!decide (V.int (i:Int)=V.non))=.bl k∧_
   rw[show decide (V.int (i:Int)=V.non)=false from decide_eq_false (by intro z;cases z)]
   nofun
   refine⟨hn,λz=>?_⟩
   nofun
   exact⟨(by walk_at "sm"),q2 hm (by rw[hb];intro z;cases z) _ (o06.trans s68.offA)⟩
  | none=>
   refine⟨rfl,?_⟩
   show ∃ k,V.bl (!decide (V.non=V.non))=.bl k∧_
   rw[ziy]
   nofun
   refine⟨p,dx,_,rfl,s68 _ _ p6,zbH (by decide +kernel),?_⟩
   nofun
   refine⟨p,ca,ia,sa,ns,cr,[],_,_,g,n,a0,a1,rfl,A6.same s68,zeE s68.sq hg6,rfl,⟨λk hk=>?_,λk hk=>by cases hk⟩,by show 0<20;decide,λH9 fas9 m9 A9=>?_⟩
   ·rw[zms.mp hk]
    exact⟨hm',by show (0:Int)≤0;omega,by show (0:Int)≤_;omega,rfl,rfl⟩
   ·nofun
    refine q3 hm hb H9 ca ia sa fas9 _ ns (m06.trans ((zaq.same s68).trans m9)) A9 pm λb hb=>?_
    rcases List.mem_cons.mp hb with rfl | hb
    ·exact ca0
    ·obtain⟨m,hm,hb⟩:=List.mem_flatMap.mp hb
     exact f0 m hm b hb
 ·obtain⟨kvs',e1,e2⟩:=kn.no (λz=>hm (pm.mem_iff.mp z))
  refine⟨ca,none,rfl,by rw[←e2];exact DGet.k (k:=.inl n) e1,?_⟩
  dsimp only[Option.isSome]
  nofun
  refine⟨hn,λz=>?_⟩
  nofun
  exact⟨(by walk_at "sm"),q1 hm _ o06⟩
inductive Q17 (K:Fg) (C:Nat→Addr) (vs:List V) (H:Hp) (Q:VK) (E:XK):Prop
 | mk (r ka ia sa:Addr) (ks:List Int) (cr:Int→Cr) (fas:List Fa) (s:Rs) (kfp:List Addr) (f:Fm) (st:List Fm) (hd x:Int):vs=[.ref r,.int hd,.int x]→RunX (C 6) (C 5) (C 7) H r ka ia sa ks cr fas s kfp→s.st=f::st→s.en=none→(0≤hd∧hd≤3)→Wf ks cr (f::st)→f.p<((cr f.n).deeds.length:Int)→(∀ H' fas',zaq (zas r ia sa fas) H (zas r ia sa fas') H'→RunX (C 6) (C 5) (C 7) H' r ka ia sa ks cr fas' (putR cr s f st hd x) kfp→Q .non H')→Q17 K C vs H Q E
theorem zkh {f:Addr}{fd:FuncData}(B:Bl K mg) {C:Nat→Addr}(Z:Zt K mg C) (Q24:Mth CX0 P w K mg base (C 6) "come_to" ["self","place"] 6 (Q23 K C)) (F:Fun K "put" "Run.put" Q16 f fd) (M:Meth K (C 6) "put" f):Mth CX0 P w K mg base (C 6) "put" ["self","hand","number"] 7 (Q17 K C):=by
 refine⟨f,fd,M,F.ok (k:=6) zgw (λvs H Q E h=>?_) (λcdv A outer s H vs Q E hr h=>?_),F.binds λ_ _ _ _ _ _ us hl=>match us,hl with | [_,_,_],_=>rfl⟩
 ·first
  | (obtain⟨_,_,_,_,_,_,_,_,_,_,_,_,_,rfl,_⟩:=h;rfl)
 obtain⟨r,ka,ia,sa,ks,cr,fas,s',kfp,f,st,hd,x,rfl,A',hst,hen,hh,wfs,hp,q⟩:=h
 refine⟨_,(zae (zaA (i:=3) zgw.nd rfl (Or.inl rfl) (zao (k_ix K) (zaI K (pv 0) rfl) (zcX zbM zaa) (λ_ _=>rfl)))
   (zae (zcd (pv 2) (zck (zaI K (pv 3) rfl) (pv 1) zbg))
   (zag (zaW (zbb Q24 Z.c_Run hr za5 (pv 0) (za6 (zaE (zaO K) (zaI K (pv 3) rfl) zaa) zab)))))),?_⟩
 have wf:=wfs.1 f List.mem_cons_self
 have e4:=wf.h4
 obtain⟨dr,ev,hr',_⟩:=A'.ins
 have fr:=A'.fr
 rw[hst] at fr
 cases fas with
 | nil=>exact fr.elim
 | cons t fas=>
 obtain⟨p,ha,aa⟩:=t
 obtain⟨⟨dp,f1⟩,f2,f3,f4⟩:=fr
 nofun
 walk_at "q"
 nofun
 refine⟨r,(C 6),dr,_,_,rfl,hr',Z.c_Run,Z.n_Run_stack,zbo,?_⟩
 nofun
 refine zaF (SqL.of A'.sta) (v:=.ref p) zcD ?_
 nofun
 walk_at "q"
 nofun
 refine⟨p,(C 5),dp,_,_,rfl,f1,Z.c_Frame,Z.n_Frame_hands,zbR _ _ _ _,?_⟩
 nofun
 refine zbw f2 (j:=hd.toNat) (zcn hh.1 (by rw[zlm];omega)) ?_
 rw[zcE]
 have A1:=A'.setH (xs:=f.hands.set hd.toNat x) hst
 obtain⟨⟨dp1,g1'⟩,_⟩:=A1.fr
 obtain⟨dr1,ev1,hr1,_⟩:=A1.ins
 have m1:zaq (zas r ia sa ((p,ha,aa)::fas)) H (zas r ia sa ((p,ha,aa)::fas)) (upd H ha (.lst ((f.hands.set hd.toNat x).map V.int))):=zaq.upd zoo
 generalize upd H ha (.lst ((f.hands.set hd.toNat x).map V.int))=H1 at *
 nofun
 refine⟨r,dr1,_,rfl,hr1,zbH (by decide +kernel),?_⟩
 nofun
 refine⟨p,(C 5),dp1,_,_,rfl,g1',Z.c_Frame,Z.n_Frame_place,zb1 _ _ _ _,?_⟩
 nofun
 refine⟨r,ka,ia,sa,ks,cr,(p,ha,aa)::fas,_,kfp,{f with hands:=f.hands.set hd.toNat x},st,f.p+1,rfl,A1,rfl,hen,wfs.top ⟨wf.m,by have:=wf.p0;show 0≤f.p+1;omega,by show f.p+1≤((cr f.n).deeds.length:Int);omega,by show (f.hands.set hd.toNat x).length=4;rw[List.length_set];exact e4,wf.a2⟩,λH2 fas2 m2 A2=>?_⟩
 nofun
 exact q H2 fas2 (m1.trans m2) A2
inductive Q1a (K:Fg) (C:Nat→Addr) (vs:List V) (H:Hp) (Q:VK) (E:XK):Prop
 | mk (r ka ia sa:Addr) (ks:List Int) (cr:Int→Cr) (fas:List Fa) (s:Rs) (kfp:List Addr) (f:Fm) (st:List Fm) (hd lo hi:Int):vs=[.ref r,.int hd,.int lo,.int hi]→RunX (C 6) (C 5) (C 7) H r ka ia sa ks cr fas s kfp→s.st=f::st→s.en=none→(0≤hd∧hd≤3)→Wf ks cr (f::st)→f.p<((cr f.n).deeds.length:Int)→(∀ H' fas',zaq (zas r ia sa fas) H (zas r ia sa fas') H'→RunX (C 6) (C 5) (C 7) H' r ka ia sa ks cr fas' (zcv cr ks s f st (.draw hd lo hi)) kfp→Q .non H')→Q1a K C vs H Q E
theorem ziV {f:Addr}{fd:FuncData}(B:Bl K mg) {C:Nat→Addr}(Z:Zt K mg C) (Q18:Mth CX0 P w K mg base (C 6) "put" ["self","hand","number"] 7 (Q17 K C)) (F:Fun K "draw" "Run.draw" Q19 f fd) (M:Meth K (C 6) "draw" f):Mth CX0 P w K mg base (C 6) "draw" ["self","hand","low","high"] 8 (Q1a K C):=by
 refine⟨f,fd,M,F.ok (k:=7) zfG (λvs H Q E h=>?_) (λcdv A outer s H vs Q E hr h=>?_),F.binds λ_ _ _ _ _ _ us hl=>match us,hl with | [_,_,_,_],_=>rfl⟩
 ·first
  | (obtain⟨_,_,_,_,_,_,_,_,_,_,_,_,_,_,rfl,_⟩:=h;rfl)
 obtain⟨r,ka,ia,sa,ks,cr,fas,s',kfp,f,st,hd,lo,hi,rfl,A',hst,hen,hh,wfs,hp,q⟩:=h
 refine⟨_,(zae (zaR (zc9 (zpW K (zaI K (pv 0) rfl))) (zae (zbk (pv 0) (zaZ (zaf zaJ zab)) rfl)
   (zag zku)) zax)
   (zae (zaA (i:=4) zfG.nd rfl (Or.inl rfl) (zjP PySem.F.plainAttrs_list PySem.F.slot_list_pop PySem.F.type_list_pop zi9 (zaI K (pv 0) rfl) (zaf zaa zab)))
   (zag (zaR (zi5 zg9 zg9 (pv 2) (pv 4) (pv 3)) (zag (zaW (zbb Q18 Z.c_Run hr za5 (pv 0) (zac (pv 1) (zac (pv 4) zab))))) (zag (zbk (pv 0) (zaZ (zaf zaJ zab)) rfl)))))),?_⟩
 obtain⟨dr,ev,hr',_⟩:=A'.ins
 have inp:=A'.inp
 unfold zcv at q
 nofun
 walk_at "q"
 nofun
 refine⟨r,(C 6),dr,_,_,rfl,hr',Z.c_Run,Z.n_Run_inputs_left,zhJ,?_⟩
 refine znm (SqL.of inp) ?_
 cases hin:s'.ins with
 | nil=>
  rw[hin] at q inp
  dsimp only at q
  rw[show (!(([]:List Int).map V.int).isEmpty)=false from rfl]
  nofun
  walk_at "q"
  nofun
  refine⟨(by walk_at "sm"),λT hT=>?_⟩
  have t4:=zah hT (.tup [V.str "dry"])
  nofun
  refine⟨r,(C 6),dr,_,rfl,t4 _ _ hr',Z.c_Run,Z.n_Run_ending,by show 5<1000;decide,?_⟩
  rw[zcq]
  nofun
  have z:=(A'.same t4).setR (k':=s'.k) (en':=some [V.str "dry"]) (t4 _ _ hr') ⟨T,rfl,zad⟩
  rw[hin] at z
  exact q _ fas ((zaq.same t4).trans (zaq.upd zgt)) z
 | cons x rs=>
 rw[hin] at q inp
 dsimp only at q
 rw[zmc] at inp
 rw[show (!((x::rs).map V.int).isEmpty)=true from rfl]
 nofun
 walk_at "q"
 nofun
 refine⟨r,(C 6),dr,_,_,rfl,hr',Z.c_Run,Z.n_Run_inputs_left,zhJ,?_⟩
 nofun
 refine⟨tyL inp,?_⟩
 nofun
 refine znn inp ?_
 have A1:=A'.setIn (xs:=rs)
 have m1:zaq (zas r ia sa fas) H (zas r ia sa fas) (upd H ia (.lst (rs.map V.int))):=zaq.upd zp3
 generalize upd H ia (.lst (rs.map V.int))=H1 at *
 obtain⟨dr1,ev1,hr1,_⟩:=A1.ins
 have bad:¬ (lo≤x∧x≤hi)→∀ T,H1 T=none→Q .non (upd (upd H1 T (.tup [V.str "stray"])) r (.ins (C 6) dr1 (rfls ka ia sa s'.k (.ref T)))):=λnb T hT=>by
  rw[if_neg nb] at q
  have t4:=zah hT (.tup [V.str "stray"])
  exact q _ fas (m1.trans ((zaq.same t4).trans (zaq.upd zgt))) ((A1.same t4).setR (k':=s'.k) (en':=some [V.str "stray"]) (t4 _ _ hr1) ⟨T,rfl,zad⟩)
 nofun
 by_cases h1:lo≤x
 ·rw[decide_eq_true h1]
  nofun
  by_cases h2:x≤hi
  ·rw[decide_eq_true h2]
   rw[if_pos ⟨h1,h2⟩] at q
   nofun
   refine⟨r,dr1,_,rfl,hr1,zbH (by decide +kernel),?_⟩
   nofun
   refine⟨r,ka,ia,sa,ks,cr,fas,_,kfp,f,st,hd,x,rfl,A1,hst,hen,hh,wfs,hp,λH2 fas2 m2 A2=>?_⟩
   nofun
   exact q H2 fas2 (m1.trans m2) A2
  ·rw[decide_eq_false h2]
   nofun
   refine⟨(by walk_at "sm"),λT hT=>?_⟩
   nofun
   refine⟨r,(C 6),dr1,_,rfl,zah hT _ _ _ hr1,Z.c_Run,Z.n_Run_ending,by show 5<1000;decide,?_⟩
   rw[zcq]
   exact bad (λz=>h2 z.2) T hT
 ·rw[decide_eq_false h1]
  nofun
  refine⟨(by walk_at "sm"),λT hT=>?_⟩
  nofun
  refine⟨r,(C 6),dr1,_,rfl,zah hT _ _ _ hr1,Z.c_Run,Z.n_Run_ending,by show 5<1000;decide,?_⟩
  rw[zcq]
  exact bad (λz=>h1 z.1) T hT
inductive Q1c (K:Fg) (C:Nat→Addr) (vs:List V) (H:Hp) (Q:VK) (E:XK):Prop
 | mk (r ka ia sa:Addr) (ks:List Int) (cr:Int→Cr) (fas:List Fa) (s:Rs) (kfp:List Addr) (f:Fm) (st:List Fm) (la:Addr) (l:List Int):vs=[.ref r,.ref la]→RunX (C 6) (C 5) (C 7) H r ka ia sa ks cr fas s kfp→s.st=f::st→s.en=none→H la=some (.lst (l.map V.int))→l.length=9→Sm l→Wf ks cr (f::st)→f.p<((cr f.n).deeds.length:Int)→(∀ H' fas',zaq (zas r ia sa fas) H (zas r ia sa fas') H'→RunX (C 6) (C 5) (C 7) H' r ka ia sa ks cr fas' (match zav [l] (zbf f) with
  | some i=>{s with en:=some (brk "hold" f i)}
  | none=>zca cr s {f with p:=f.p+1} st) kfp→Q .non H')→Q1c K C vs H Q E
theorem ziW {f:Addr}{fd:FuncData}(B:Bl K mg) {C:Nat→Addr}(Z:Zt K mg C) (Q35:Mth CX0 P w K mg base (C 6) "meets" ["self","word","lines","numbers"] 4 (Q34 K C)) (Q9:Mth CX0 P w K mg base (C 5) "numbers" ["self"] 1 (Q8 K C)) (Q24:Mth CX0 P w K mg base (C 6) "come_to" ["self","place"] 6 (Q23 K C)) (F:Fun K "hold" "Run.hold" Q1b f fd) (M:Meth K (C 6) "hold" f):Mth CX0 P w K mg base (C 6) "hold" ["self","line"] 7 (Q1c K C):=by
 refine⟨f,fd,M,F.ok (k:=6) zfH (λvs H Q E h=>?_) (λcdv A outer s H vs Q E hr h=>?_),F.binds λ_ _ _ _ _ _ us hl=>match us,hl with | [_,_],_=>rfl⟩
 ·first
  | (obtain⟨_,_,_,_,_,_,_,_,_,_,_,_,_,rfl,_⟩:=h;rfl)
 obtain⟨r,ka,ia,sa,ks,cr,fas,s',kfp,f,st,la,l,rfl,A',hst,hen,hla,l9,lsm,wfs,hp,q⟩:=h
 refine⟨_,(zae (zaA (i:=2) zfH.nd rfl (Or.inl rfl) (zao (k_ix K) (zaI K (pv 0) rfl) (zcX zbM zaa) (λ_ _=>rfl)))
   (zag (zaR (zb2 (zbb Q35 Z.c_Run hr za5 (pv 0) (zaf zaJ (zeM (za3 (zac (pv 1) zab)) (zaL (zby Q9 Z.c_Frame hr za5 (pv 2)) zab))))) (zag (zaW (zbb Q24 Z.c_Run hr za5 (pv 0) (za6 (zaE (zaO K) (zaI K (pv 2) rfl) zaa) zab)))) zax))),?_⟩
 have wf:=wfs.1 f List.mem_cons_self
 obtain⟨dr,ev,hr',_⟩:=A'.ins
 have fr:=A'.fr
 rw[hst] at fr
 cases fas with
 | nil=>exact fr.elim
 | cons t fas=>
 obtain⟨p,ha,aa⟩:=t
 obtain⟨⟨dp,f1⟩,f2,f3,f4⟩:=fr
 nofun
 walk_at "q"
 nofun
 refine⟨r,(C 6),dr,_,_,rfl,hr',Z.c_Run,Z.n_Run_stack,zbo,?_⟩
 nofun
 refine zaF (SqL.of A'.sta) (v:=.ref p) zcD ?_
 nofun
 refine⟨r,dr,_,rfl,hr',zbH (by decide +kernel),?_⟩
 nofun
 refine⟨(by walk_at "sm"),λb hb=>?_⟩
 have t1:=zah hb (.lst [V.ref la])
 have hb1:(upd H b (.lst [V.ref la])) b=some (.lst [V.ref la]):=zad
 generalize upd H b (.lst [V.ref la])=H1 at *
 nofun
 refine⟨p,dp,_,rfl,t1 _ _ f1,zka (by decide +kernel),?_⟩
 nofun
 refine⟨p,dp,ha,aa,f,rfl,t1 _ _ f1,t1 _ _ f2,t1 _ _ f3,wf.h4,wf.a2,λna H2 s2 hna=>?_⟩
 have s02:=t1.trans s2
 nofun
 refine⟨r,ka,ia,sa,ks,cr,(p,ha,aa)::fas,s',kfp,"hold",b,na,[l],zbf f,f,st,rfl,A'.same s02,hst,hen,⟨_,s2 _ _ hb1,?_⟩,SqL.of hna,zcT wf,λz hz=>by rw[zms.mp hz];exact⟨l9,lsm⟩,λH3 o3 A3=>?_⟩
 ·show Reps K H2 [nums l] [.ref la]
  unfold Reps
  exact⟨_,_,rfl,zcf.mpr ⟨la,rfl,SqL.of (s02 _ _ hla)⟩,by unfold Reps;rfl⟩
 have m3:zaq (zas r ia sa ((p,ha,aa)::fas)) H (zas r ia sa ((p,ha,aa)::fas)) H3:=(zaq.same s02).trans (zaq.offR o3 A3)
 cases hb:zav [l] (zbf f) with
 | some i=>
  rw[hb] at q A3
  dsimp only[Option.isNone]
  nofun
  exact q H3 _ m3 A3
 | none=>
 rw[hb] at q A3
 have A3:RunX (C 6) (C 5) (C 7) H3 r ka ia sa ks cr ((p,ha,aa)::fas) s' kfp:=by
  rw[←Rs.quiet hen];exact A3
 dsimp only[Option.isNone]
 nofun
 obtain⟨dr3,ev3,hr3,_⟩:=A3.ins
 have fr3:=A3.fr
 rw[hst] at fr3
 obtain⟨⟨dp3,k1⟩,_⟩:=fr3
 refine⟨r,dr3,_,rfl,hr3,zbH (by decide +kernel),?_⟩
 nofun
 refine⟨p,(C 5),dp3,_,_,rfl,k1,Z.c_Frame,Z.n_Frame_place,zb1 _ _ _ _,?_⟩
 nofun
 refine⟨r,ka,ia,sa,ks,cr,(p,ha,aa)::fas,s',kfp,f,st,f.p+1,rfl,A3,hst,hen,wfs.top ⟨wf.m,by have:=wf.p0;show 0≤f.p+1;omega,by show f.p+1≤((cr f.n).deeds.length:Int);omega,wf.h4,wf.a2⟩,λH4 fas4 m4 A4=>?_⟩
 nofun
 exact q H4 fas4 (m3.trans m4) A4
inductive Q1e (K:Fg) (C:Nat→Addr) (vs:List V) (H:Hp) (Q:VK) (E:XK):Prop
 | mk (r ka ia sa:Addr) (ks:List Int) (cr:Int→Cr) (fas:List Fa) (s:Rs) (kfp:List Addr) (f:Fm) (st:List Fm) (g:Addr) (m a0 a1:Int):vs=[.ref r,.int m,.ref g]→RunX (C 6) (C 5) (C 7) H r ka ia sa ks cr fas s kfp→s.st=f::st→s.en=none→(SqL K H g [.int a0,.int a1]∨SqT K H g [.int a0,.int a1])→Wf ks cr (f::st)→zfy cr f→st.length<100→(∀ H' fas',zaq (zas r ia sa fas) H (zas r ia sa fas') H'→RunX (C 6) (C 5) (C 7) H' r ka ia sa ks cr fas' (zhM cr ks s f st m a0 a1) kfp→Q .non H')→Q1e K C vs H Q E
theorem ziX {f:Addr}{fd:FuncData}(B:Bl K mg) {C:Nat→Addr}(Z:Zt K mg C) (Q35:Mth CX0 P w K mg base (C 6) "meets" ["self","word","lines","numbers"] 4 (Q34 K C)) (Q3b:Fn P w K mg base "asked_numbers" ["asked"] 1 (Q3a K)) (Q21:Mth CX0 P w K mg base (C 6) "begin" ["self","number","given"] 7 (Q20 K C)) (F:Fun K "call" "Run.call" Q1d f fd) (M:Meth K (C 6) "call" f):Mth CX0 P w K mg base (C 6) "call" ["self","number","given"] 8 (Q1e K C):=by
 refine⟨f,fd,M,F.ok (k:=7) ziS (λvs H Q E h=>?_) (λcdv A outer s H vs Q E hr h=>?_),F.binds λ_ _ _ _ _ _ us hl=>match us,hl with | [_,_,_],_=>rfl⟩
 ·first
  | (obtain⟨_,_,_,_,_,_,_,_,_,_,_,_,_,_,_,rfl,_⟩:=h;rfl)
 obtain⟨r,ka,ia,sa,ks,cr,fas,s',kfp,f,st,g,m,a0,a1,rfl,A',hst,hen,hg,wfs,hc,l100,q⟩:=h
 refine⟨_,(zag (zaR (zg5 (zfh (hr_u hr) (pv 1) (zaI K (pv 0) rfl))) (zag (zbk (pv 0) (zaZ (zaf zaJ zab)) rfl)) (zag (zaR (zau zha (zaH (zdY K) rfl B.len L2.boot_len (zbd (zaI K (pv 0) rfl) zab)) (zdm rfl B.c_MOST_FRAMES) (zay _)) (zag (zbk (pv 0) (zaZ (zaf zaJ zab)) rfl)) (zag (zaR (zb2 (zbb Q35 Z.c_Run hr za5 (pv 0) (zaf zaJ (zbd (zaI K (zcH (hr_u hr) (zaI K (pv 0) rfl) (pv 1) (λ_ _=>rfl)) rfl) (zaL (zat Q3b hr rfl (zac (pv 2) zab)) zab))))) (zag (zaW (zbb Q21 Z.c_Run hr za5 (pv 0) (zac (pv 1) (zac (pv 2) zab))))) zax)))))),?_⟩
 obtain⟨dr,ev,hr',_⟩:=A'.ins
 have fl:=A'.fr.len
 rw[hst,List.length_cons] at fl
 unfold zhM at q
 have sete:∀ (x:List V) T,H T=none→(∀ H' fas',zaq (zas r ia sa fas) H (zas r ia sa fas') H'→RunX (C 6) (C 5) (C 7) H' r ka ia sa ks cr fas' {s' with en:=some x} kfp→Q .non H')→Q .non (upd (upd H T (.tup x)) r (.ins (C 6) dr (rfls ka ia sa s'.k (.ref T)))):=λx T hT q=>by
  have t4:=zah hT (.tup x)
  exact q _ fas ((zaq.same t4).trans (zaq.upd zgt)) ((A'.same t4).setR (k':=s'.k) (en':=some x) (t4 _ _ hr') ⟨T,rfl,zad⟩)
 nofun
 refine⟨r,(C 6),dr,_,_,rfl,hr',Z.c_Run,Z.n_Run_known,zej,?_⟩
 by_cases hm:m∈ks
 ·rw[if_neg (λz=>z hm)] at q
  obtain⟨kvs,o,g1,e1,e2,e3⟩:=A'.kn.craft hm
  refine⟨ka,some (.ref o),rfl,by rw[←e2];exact DGet.k (k:=.inl m) e1,?_⟩
  dsimp only[Option.isSome]
  nofun
  refine⟨r,(C 6),dr,_,_,rfl,hr',Z.c_Run,Z.n_Run_stack,zbo,?_⟩
  nofun
  refine zdX (.inl (SqL.of A'.sta)) ?_
  nofun
  rw[zlm,List.length_reverse,←fl]
  by_cases h20:20≤(f::st).length
  ·rw[if_pos h20] at q
   rw[List.length_cons] at h20
   rw[decide_eq_true (show (20:Int)≤((st.length+1:Nat):Int) by omega)]
   nofun
   refine⟨(by walk_at "sm"),λT hT=>?_⟩
   nofun
   refine⟨r,(C 6),dr,_,rfl,zah hT _ _ _ hr',Z.c_Run,Z.n_Run_ending,by show 5<1000;decide,?_⟩
   rw[zcq]
   exact sete _ T hT q
  ·rw[if_neg h20] at q
   rw[List.length_cons] at h20
   rw[decide_eq_false (show ¬ (20:Int)≤((st.length+1:Nat):Int) by omega)]
   have rtm:=A'.kn.rt m hm
   obtain⟨dx,y1,y2,b3,b4,dvs,nvs,ho,hL,_⟩:=e3.out (K:=K) rtm.nine.d9
   nofun
   refine⟨r,dr,_,rfl,hr',zbH (by decide +kernel),?_⟩
   nofun
   refine⟨r,(C 6),dr,_,_,rfl,hr',Z.c_Run,Z.n_Run_known,zej,?_⟩
   nofun
   refine⟨ka,.ref o,rfl,by rw[←e2];exact DGet.k (k:=.inl m) e1,?_⟩
   nofun
   refine⟨o,(C 7),dx,_,_,rfl,ho,Z.c_Craft,Z.n_Craft_needs,zcA _ _ _ _,?_⟩
   nofun
   refine⟨g,a0,a1,rfl,hg,λna H1 s1 hna=>?_⟩
   nofun
   refine⟨r,ka,ia,sa,ks,cr,fas,s',kfp,"needs",y1,na,_,zcB a0 a1,f,st,rfl,A'.same s1,hst,hen,hL.same s1,SqL.of hna,rfl,rtm.sm.1,λH2 o2 A2=>?_⟩
   have m2:zaq (zas r ia sa fas) H (zas r ia sa fas) H2:=(zaq.same s1).trans (zaq.offR o2 A2)
   cases hb:zav (cr m).needs (zcB a0 a1) with
   | some i=>
    rw[hb] at q A2
    dsimp only[Option.isNone]
    nofun
    exact q H2 _ m2 A2
   | none=>
    rw[hb] at q A2
    have A2:RunX (C 6) (C 5) (C 7) H2 r ka ia sa ks cr fas s' kfp:=by
     rw[←Rs.quiet hen];exact A2
    obtain⟨dr2,ev2,hr2,_⟩:=A2.ins
    dsimp only[Option.isNone]
    nofun
    refine⟨r,dr2,_,rfl,hr2,zbH (by decide +kernel),?_⟩
    nofun
    have hg2:SqL K H2 g [.int a0,.int a1]∨SqT K H2 g [.int a0,.int a1]:=by
     refine zeE (λb o e so=>?_) hg
     refine o2 b o (λz=>?_) (s1 b o e)
     rw[zms.mp z,hr'] at e
     cases e
     cases so
    refine⟨r,ka,ia,sa,ks,cr,fas,s',kfp,g,m,a0,a1,rfl,A2,hg2,hen,⟨λk hk=>?_,λk hk=>?_⟩,by rw[hst,List.length_cons];omega,λH3 fas3 m3 A3=>?_⟩
    ·rcases List.mem_cons.mp hk with rfl | hk
     ·exact⟨hm,by show (0:Int)≤0;omega,by show (0:Int)≤_;omega,rfl,rfl⟩
     ·rw[hst] at hk;exact wfs.1 k hk
    ·rw[List.tail_cons,hst] at hk
     rcases List.mem_cons.mp hk with rfl | hk
     ·exact hc
     ·exact wfs.2 k hk
    ·nofun
     rw[hst] at A3
     exact q H3 fas3 (m2.trans m3) A3
 ·rw[if_pos hm] at q
  obtain⟨kvs,e1,e2⟩:=A'.kn.no hm
  refine⟨ka,none,rfl,by rw[←e2];exact DGet.k (k:=.inl m) e1,?_⟩
  dsimp only[Option.isSome]
  nofun
  refine⟨(by walk_at "sm"),λT hT=>?_⟩
  nofun
  refine⟨r,(C 6),dr,_,rfl,zah hT _ _ _ hr',Z.c_Run,Z.n_Run_ending,by show 5<1000;decide,?_⟩
  rw[zcq]
  exact sete _ T hT q
theorem zjx {H:Hp}{Q:VK}{E:XK}{la na:Addr}{l ns:List Int}(h9:l.length=9) (sm:Sm l) (h1:H la=some (.lst (l.map V.int))) (h2:H na=some (.lst (ns.map V.int))) (h3:ns.length=8) (q:∀ H',Same H H'→Q (.int (zaV l ns)) H'):ze8 K [.ref la,.ref na] H Q E:=by
 cases l with
 | nil=>simp at h9
 | cons c fs=>
 refine⟨la,na,c,fs,ns,rfl,SqL.of h1,SqL.of h2,by simpa using h9,h3,zjs sm,λH' s=>?_⟩
 rw[←zc2]
 exact q H' s
theorem zmS {H:Hp}{Q:VK}{E:XK}{la na:Addr}{l ns:List Int}(h9:l.length=9) (sm:Sm l) (h1:H la=some (.lst (l.map V.int))) (h2:H na=some (.lst (ns.map V.int))) (h3:ns.length=8) (q:∀ H',Same H H'→Q (.bl (decide (0≤zaV l ns))) H'):ze9 K [.ref la,.ref na] H Q E:=by
 cases l with
 | nil=>simp at h9
 | cons c fs=>
 refine⟨la,na,c,fs,ns,rfl,SqL.of h1,SqL.of h2,by simpa using h9,h3,zjs sm,λH' s=>?_⟩
 rw[←zc2]
 exact q H' s
inductive Q15 (K:Fg) (C:Nat→Addr) (vs:List V) (H:Hp) (Q:VK) (E:XK):Prop
 | mk (r ka ia sa:Addr) (ks:List Int) (cr:Int→Cr) (fas:List Fa) (s:Rs) (kfp:List Addr):vs=[.ref r]→RunX (C 6) (C 5) (C 7) H r ka ia sa ks cr fas s kfp→WfR ks cr s→s.en=none→s.st.length≤20→(∀ H' fas',zaq (zas r ia sa fas) H (zas r ia sa fas') H'→RunX (C 6) (C 5) (C 7) H' r ka ia sa ks cr fas' (zci cr ks s) kfp→Q .non H')→Q15 K C vs H Q E
theorem ziY {f:Addr}{fd:FuncData}(B:Bl K mg) {C:Nat→Addr}(Z:Zt K mg C) (Q18:Mth CX0 P w K mg base (C 6) "put" ["self","hand","number"] 7 (Q17 K C)) (Q32:Mth CX0 P w K mg base (C 6) "craft_of" ["self","frame"] 1 (Q31 K C)) (Q1:Fn P w K mg base "worth" ["line","numbers"] 1 (ze8 K)) (Q9:Mth CX0 P w K mg base (C 5) "numbers" ["self"] 1 (Q8 K C)) (G_Run_draw:Mth CX0 P w K mg base (C 6) "draw" ["self","hand","low","high"] 8 (Q1a K C)) (Q24:Mth CX0 P w K mg base (C 6) "come_to" ["self","place"] 6 (Q23 K C)) (G_Run_hold:Mth CX0 P w K mg base (C 6) "hold" ["self","line"] 7 (Q1c K C)) (G_Run_call:Mth CX0 P w K mg base (C 6) "call" ["self","number","given"] 8 (Q1e K C)) (Q4:Fn P w K mg base "holds" ["line","numbers"] 2 (ze9 K)) (F:Fun K "step" "Run.step" Q14 f fd) (M:Meth K (C 6) "step" f):Mth CX0 P w K mg base (C 6) "step" ["self"] 9 (Q15 K C):=by
 refine⟨f,fd,M,F.ok (k:=8) zcs (λvs H Q E h=>?_) (λcdv A outer s H vs Q E hr h=>?_),F.binds λ_ _ _ _ _ _ us hl=>match us,hl with | [_],_=>rfl⟩
 ·first
  | (obtain⟨_,_,_,_,_,_,_,_,_,rfl,_⟩:=h;rfl)
 obtain⟨r,ka,ia,sa,ks,cr,fas,s',kfp,rfl,A',hW,hen,l20,q⟩:=h
 refine⟨_,(zae (zbk (pv 0) (zaE (zaO K) (zaI K (pv 0) rfl) zaa) rfl)
   (zae (zaA (i:=1) zcs.nd rfl (Or.inl rfl) (zao (k_ix K) (zaI K (pv 0) rfl) (zcX zbM zaa) (λ_ _=>rfl)))
   (zae (zaA (i:=2) zcs.nd rfl (Or.inl rfl) (zao (k_ix K) (zaI K (zbb Q32 Z.c_Run hr za5 (pv 0) (zac (pv 1) zab)) rfl) (zaI K (pv 1) rfl) (λ_ _=>rfl)))
   (zae (zaA (i:=3) zcs.nd rfl (Or.inl rfl) (zao (k_ix K) (pv 2) zaa (λ_ _=>rfl)))
   (zag (zaR (zau (k_eq K hr) (pv 3) zaJ (zay _)) (zag (zaW (zbb Q18 Z.c_Run hr za5 (pv 0) (zaw (zao (k_ix K) (pv 2) zaa (λ_ _=>rfl)) (zaL (zat Q1 hr rfl (zaw (zao (k_ix K) (pv 2) zaa (λ_ _=>rfl)) (zaL (zby Q9 Z.c_Frame hr za5 (pv 1)) zab))) zab))))) (zag (zaR (zau (k_eq K hr) (pv 3) zaJ (zay _)) (zag (zaW (zbb Q18 Z.c_Run hr za5 (pv 0) (zaw (zao (k_ix K) (pv 2) zaa (λ_ _=>rfl)) (za6 (zaE zcY (zat Q1 hr rfl (zaw (zao (k_ix K) (pv 2) zaa (λ_ _=>rfl)) (zaL (zby Q9 Z.c_Frame hr za5 (pv 1)) zab))) (zao (k_ix K) (pv 2) zaa (λ_ _=>rfl))) zab))))) (zag (zaR (zau (k_eq K hr) (pv 3) zaJ (zay _)) (zag (zaW (zbb G_Run_draw Z.c_Run hr za5 (pv 0) (zaw (zao (k_ix K) (pv 2) zaa (λ_ _=>rfl)) (zaw (zao (k_ix K) (pv 2) zaa (λ_ _=>rfl)) (zaw (zao (k_ix K) (pv 2) zaa (λ_ _=>rfl)) zab)))))) (zag (zaR (zau (k_eq K hr) (pv 3) zaJ (zay _)) (zag (zaW (zbb Q24 Z.c_Run hr za5 (pv 0) (zpO (zdz (zb2 (zat Q4 hr rfl (zaw (zao (k_ix K) (pv 2) zaa (λ_ _=>rfl)) (zaL (zby Q9 Z.c_Frame hr za5 (pv 1)) zab)))) (zao (k_ix K) (pv 2) zaa (λ_ _=>rfl)) (zaE (zaO K) (zaI K (pv 1) rfl) zaa)) zab)))) (zag (zaR (zau (k_eq K hr) (pv 3) zaJ (zay _)) (zag (zaW (zbb G_Run_hold Z.c_Run hr za5 (pv 0) (zaw (zao (k_ix K) (pv 2) zaa (λ_ _=>rfl)) zab)))) (zae (zaA (i:=4) zcs.nd rfl (Or.inl rfl) (zao (k_ix K) (pv 2) zaa (λ_ _=>rfl)))
   (zag (zaW (zbb G_Run_call Z.c_Run hr za5 (pv 0) (zaw (zao (k_ix K) (pv 2) zaa (λ_ _=>rfl)) (zeM (za3 (zaw (zao (k_ix K) (zaI K (pv 1) rfl) (zao (k_ix K) (pv 4) zaa (λ_ _=>rfl)) (λ_ _=>rfl)) (zaw (zao (k_ix K) (zaI K (pv 1) rfl) (zao (k_ix K) (pv 4) zaa (λ_ _=>rfl)) (λ_ _=>rfl)) zab))) zab)))))))))))))))))))),?_⟩
 obtain⟨f,st,hst,hp⟩:=hW.on hen
 have wfs:=hW.w
 rw[hst] at wfs l20
 rw[List.length_cons] at l20
 have wf:=wfs.1 f List.mem_cons_self
 have rt:=A'.kn.rt f.n wf.m
 obtain⟨dr,ev,hr',hev⟩:=A'.ins
 have fr:=A'.fr
 rw[hst] at fr
 cases fas with
 | nil=>exact fr.elim
 | cons t fas=>
 obtain⟨p,ha,aa⟩:=t
 obtain⟨⟨dp,f1⟩,f2,f3,f4⟩:=fr
 have hp0:=wf.p0
 have hlt:f.p.toNat<(cr f.n).deeds.length:=by omega
 have hd:zdP (cr f.n) f.p=some (cr f.n).deeds[f.p.toNat]:=List.getElem?_eq_getElem hlt
 have hok:=rt.parts.2.2.2.2.2 _ (List.getElem_mem hlt)
 have h9:=rt.nine.d9 _ (List.getElem_mem hlt)
 rw[zjv hst hd] at q
 nofun
 walk_at "q"
 nofun
 refine⟨r,(C 6),dr,_,_,rfl,hr',Z.c_Run,Z.n_Run_steps_done,zjq,?_⟩
 nofun
 refine⟨r,(C 6),dr,_,rfl,hr',Z.c_Run,Z.n_Run_steps_done,by show 5<1000;decide,?_⟩
 rw[zmF]
 have A1:=A'.setR (k':=s'.k+1) (en':=s'.en) hr' hev
 have m1:zaq (zas r ia sa ((p,ha,aa)::fas)) H (zas r ia sa ((p,ha,aa)::fas)) (upd H r (.ins (C 6) dr (rfls ka ia sa (s'.k+1) ev))):=zaq.upd zgt
 generalize upd H r (.ins (C 6) dr (rfls ka ia sa (s'.k+1) ev))=H1 at *
 have hst1:({s' with k:=s'.k+1,en:=s'.en} : Rs).st=f::st:=hst
 have hen1:({s' with k:=s'.k+1,en:=s'.en} : Rs).en=none:=hen
 have q:=λH' fas' m A=>q H' fas' (m1.trans m) A
 generalize ({s' with k:=s'.k+1,en:=s'.en} : Rs)=s1 at *
 clear f1 f2 f3 f4 hr' hev
 obtain⟨dr,ev,hr',hev⟩:=A1.ins
 have fr:=A1.fr
 rw[hst1] at fr
 obtain⟨⟨dp,f1⟩,f2,f3,f4⟩:=fr
 nofun
 walk_at "q"
 nofun
 refine⟨r,(C 6),dr,_,_,rfl,hr',Z.c_Run,Z.n_Run_stack,zbo,?_⟩
 nofun
 refine zaF (SqL.of A1.sta) (v:=.ref p) zcD ?_
 nofun
 walk_at "q"
 nofun
 refine⟨r,dr,_,rfl,hr',zbH (by decide +kernel),?_⟩
 nofun
 refine⟨r,ka,ia,sa,ks,cr,(p,ha,aa)::fas,s1,kfp,p,dp,ha,aa,f,rfl,A1,f1,wf.m,λo gg hC=>?_⟩
 obtain⟨dx,y1,y2,b3,b4,dvs,nvs,ho,_,_,h3,hD,_⟩:=hC.out (K:=K) rt.nine.d9
 have ld:=hD.1
 have hx:=List.getElem?_eq_getElem (l:=dvs) (i:=f.p.toNat) (by omega)
 have hdr:=hD.2 _ _ _ hd hx
 have hat:=hd
 generalize (cr f.n).deeds[f.p.toNat]=d at *
 generalize dvs[f.p.toNat]=x at *
 nofun
 refine⟨o,(C 7),dx,_,_,rfl,ho,Z.c_Craft,Z.n_Craft_deeds,zcg _ _ _ _,?_⟩
 nofun
 refine⟨p,(C 5),dp,_,_,rfl,f1,Z.c_Frame,Z.n_Frame_place,zb1 _ _ _ _,?_⟩
 nofun
 refine zaF (SqL.of h3) (v:=x) (zft hp0 hx) ?_
 cases d with
 | set hh l=>
  obtain⟨T,ys,rfl,hT,px⟩:=zaT hdr
  obtain⟨x0,ys,rfl,e0,px⟩:=zal px
  obtain⟨x1,ys,rfl,e1,px⟩:=zal px
  obtain⟨x2,ys,rfl,e2,px⟩:=zal px
  cases zbi px
  cases zbc e0
  cases za4 e1
  obtain⟨la,rfl,hla⟩:=zb6 e2
  simp only[zaY,zbp,btw,Bool.and_eq_true,decide_eq_true_eq] at hok
  nofun
  walk_at "q"
  nofun
  refine zaD (SqT.of hT) (v:=.str "set") zaB ?_
  nofun
  rw[decide_eq_true rfl]
  nofun
  refine⟨r,dr,_,rfl,hr',zbH (by decide +kernel),?_⟩
  nofun
  refine zaD (SqT.of hT) (v:=.int hh) (zan (j:=1) rfl) ?_
  nofun
  refine zaD (SqT.of hT) (v:=.ref la) (zan (j:=2) rfl) ?_
  nofun
  refine⟨p,dp,_,rfl,f1,zka (by decide +kernel),?_⟩
  nofun
  refine⟨p,dp,ha,aa,f,rfl,f1,f2,f3,wf.h4,wf.a2,λna H2 s2 hna=>?_⟩
  nofun
  refine zjx (H:=H2) h9 (zfw hok.2) (s2 _ _ hla) hna (zcT wf) λH3 s3=>?_
  have s23:=s2.trans s3
  nofun
  refine⟨r,ka,ia,sa,ks,cr,(p,ha,aa)::fas,s1,kfp,f,st,hh,_,rfl,A1.same s23,hst1,hen1,hok.1,wfs,hp,λH4 fas4 m4 A4=>?_⟩
  nofun
  exact q H4 fas4 ((zaq.same s23).trans m4) A4
 | part hh l b=>
  obtain⟨T,ys,rfl,hT,px⟩:=zaT hdr
  obtain⟨x0,ys,rfl,e0,px⟩:=zal px
  obtain⟨x1,ys,rfl,e1,px⟩:=zal px
  obtain⟨x2,ys,rfl,e2,px⟩:=zal px
  obtain⟨x3,ys,rfl,e3,px⟩:=zal px
  cases zbi px
  cases zbc e0
  cases za4 e1
  cases za4 e3
  obtain⟨la,rfl,hla⟩:=zb6 e2
  simp only[zaY,zbp,btw,Bool.and_eq_true,decide_eq_true_eq] at hok
  obtain⟨hok1,hok2,hok3⟩:=hok
  nofun
  walk_at "q"
  nofun
  refine zaD (SqT.of hT) (v:=.str "part") zaB ?_
  nofun
  rw[zoq]
  nofun
  rw[decide_eq_true rfl]
  nofun
  refine⟨r,dr,_,rfl,hr',zbH (by decide +kernel),?_⟩
  nofun
  refine zaD (SqT.of hT) (v:=.int hh) (zan (j:=1) rfl) ?_
  nofun
  refine zaD (SqT.of hT) (v:=.ref la) (zan (j:=2) rfl) ?_
  nofun
  refine⟨p,dp,_,rfl,f1,zka (by decide +kernel),?_⟩
  nofun
  refine⟨p,dp,ha,aa,f,rfl,f1,f2,f3,wf.h4,wf.a2,λna H2 s2 hna=>?_⟩
  nofun
  refine zjx (H:=H2) h9 (zfw hok2) (s2 _ _ hla) hna (zcT wf) λH3 s3=>?_
  have s23:=s2.trans s3
  nofun
  refine zaD (SqT.of (s23 _ _ hT)) (v:=.int b) (zan (j:=3) rfl) ?_
  nofun
  refine⟨r,ka,ia,sa,ks,cr,(p,ha,aa)::fas,s1,kfp,f,st,hh,_,rfl,A1.same s23,hst1,hen1,hok1,wfs,hp,λH4 fas4 m4 A4=>?_⟩
  nofun
  exact q H4 fas4 ((zaq.same s23).trans m4) A4
 | draw hh lo hi=>
  obtain⟨T,ys,rfl,hT,px⟩:=zaT hdr
  obtain⟨x0,ys,rfl,e0,px⟩:=zal px
  obtain⟨x1,ys,rfl,e1,px⟩:=zal px
  obtain⟨x2,ys,rfl,e2,px⟩:=zal px
  obtain⟨x3,ys,rfl,e3,px⟩:=zal px
  cases zbi px
  cases zbc e0
  cases za4 e1
  cases za4 e2
  cases za4 e3
  simp only[zaY,zbp,btw,Bool.and_eq_true,decide_eq_true_eq] at hok
  nofun
  walk_at "q"
  nofun
  refine zaD (SqT.of hT) (v:=.str "draw") zaB ?_
  nofun
  rw[zly.1]
  nofun
  rw[zly.2]
  nofun
  rw[decide_eq_true rfl]
  nofun
  refine⟨r,dr,_,rfl,hr',zbH (by decide +kernel),?_⟩
  nofun
  refine zaD (SqT.of hT) (v:=.int hh) (zan (j:=1) rfl) ?_
  nofun
  refine zaD (SqT.of hT) (v:=.int lo) (zan (j:=2) rfl) ?_
  nofun
  refine zaD (SqT.of hT) (v:=.int hi) (zan (j:=3) rfl) ?_
  nofun
  refine⟨r,ka,ia,sa,ks,cr,(p,ha,aa)::fas,s1,kfp,f,st,hh,lo,hi,rfl,A1,hst1,hen1,hok.1,wfs,hp,λH4 fas4 m4 A4=>?_⟩
  nofun
  exact q H4 fas4 m4 A4
 | turn l j=>
  obtain⟨T,ys,rfl,hT,px⟩:=zaT hdr
  obtain⟨x0,ys,rfl,e0,px⟩:=zal px
  obtain⟨x1,ys,rfl,e1,px⟩:=zal px
  obtain⟨x2,ys,rfl,e2,px⟩:=zal px
  cases zbi px
  cases zbc e0
  cases za4 e2
  obtain⟨la,rfl,hla⟩:=zb6 e1
  simp only[zaY,btw,Bool.and_eq_true,decide_eq_true_eq] at hok
  nofun
  walk_at "q"
  nofun
  refine zaD (SqT.of hT) (v:=.str "turn") zaB ?_
  nofun
  rw[ziN.1]
  nofun
  rw[ziN.2.1]
  nofun
  rw[ziN.2.2]
  nofun
  rw[decide_eq_true rfl]
  nofun
  refine⟨r,dr,_,rfl,hr',zbH (by decide +kernel),?_⟩
  nofun
  refine zaD (SqT.of hT) (v:=.ref la) (zan (j:=1) rfl) ?_
  nofun
  refine⟨p,dp,_,rfl,f1,zka (by decide +kernel),?_⟩
  nofun
  refine⟨p,dp,ha,aa,f,rfl,f1,f2,f3,wf.h4,wf.a2,λna H2 s2 hna=>?_⟩
  nofun
  refine zmS (H:=H2) h9 (zfw hok.1) (s2 _ _ hla) hna (zcT wf) λH3 s3=>?_
  have s23:=s2.trans s3
  have wj:∀ k,0≤k→k≤((cr f.n).deeds.length:Int)→Wf ks cr ({f with p:=k}::st):=λk z1 z2=>wfs.top ⟨wf.m,z1,z2,wf.h4,wf.a2⟩
  unfold zcv at q
  by_cases hb:0≤zaV l (zbf f)
  ·rw[decide_eq_true hb]
   simp only[if_pos hb] at q
   nofun
   refine zaD (SqT.of (s23 _ _ hT)) (v:=.int j) (zan (j:=2) rfl) ?_
   nofun
   refine⟨r,ka,ia,sa,ks,cr,(p,ha,aa)::fas,s1,kfp,f,st,j,rfl,A1.same s23,hst1,hen1,wj j hok.2.1 hok.2.2,λH4 fas4 m4 A4=>?_⟩
   nofun
   exact q H4 fas4 ((zaq.same s23).trans m4) A4
  ·rw[decide_eq_false hb]
   simp only[if_neg hb] at q
   nofun
   refine⟨p,(C 5),dp,_,_,rfl,s23 _ _ f1,Z.c_Frame,Z.n_Frame_place,zb1 _ _ _ _,?_⟩
   nofun
   refine⟨r,ka,ia,sa,ks,cr,(p,ha,aa)::fas,s1,kfp,f,st,f.p+1,rfl,A1.same s23,hst1,hen1,wj (f.p+1) (by omega) (by omega),λH4 fas4 m4 A4=>?_⟩
   nofun
   exact q H4 fas4 ((zaq.same s23).trans m4) A4
 | hold l=>
  obtain⟨T,ys,rfl,hT,px⟩:=zaT hdr
  obtain⟨x0,ys,rfl,e0,px⟩:=zal px
  obtain⟨x1,ys,rfl,e1,px⟩:=zal px
  cases zbi px
  cases zbc e0
  obtain⟨la,rfl,hla⟩:=zb6 e1
  simp only[zaY] at hok
  nofun
  walk_at "q"
  nofun
  refine zaD (SqT.of hT) (v:=.str "hold") zaB ?_
  nofun
  rw[zgQ.1]
  nofun
  rw[zgQ.2.1]
  nofun
  rw[zgQ.2.2.1]
  nofun
  rw[zgQ.2.2.2]
  nofun
  rw[decide_eq_true rfl]
  nofun
  refine⟨r,dr,_,rfl,hr',zbH (by decide +kernel),?_⟩
  nofun
  refine zaD (SqT.of hT) (v:=.ref la) (zan (j:=1) rfl) ?_
  nofun
  refine⟨r,ka,ia,sa,ks,cr,(p,ha,aa)::fas,s1,kfp,f,st,la,l,rfl,A1,hst1,hen1,hla,h9,zfw hok,wfs,hp,λH4 fas4 m4 A4=>?_⟩
  nofun
  exact q H4 fas4 m4 A4
 | call m g0 g1 t0 t1=>
  obtain⟨T,ys,rfl,hT,px⟩:=zaT hdr
  obtain⟨x0,ys,rfl,e0,px⟩:=zal px
  obtain⟨x1,ys,rfl,e1,px⟩:=zal px
  obtain⟨x2,ys,rfl,e2,px⟩:=zal px
  obtain⟨x3,ys,rfl,e3,px⟩:=zal px
  cases zbc e0
  cases za4 e1
  obtain⟨gv,rfl,hgv⟩:=zeh e2
  obtain⟨b0,b1,_⟩:=zdF hok
  have e4:=wf.h4
  rw[zgu] at q
  nofun
  walk_at "q"
  nofun
  refine zaD (SqT.of hT) (v:=.str "call") zaB ?_
  nofun
  rw[zfA.1]
  nofun
  rw[zfA.2.1]
  nofun
  rw[zfA.2.2.1]
  nofun
  rw[zfA.2.2.2.1]
  nofun
  rw[zfA.2.2.2.2]
  nofun
  walk_at "q"
  nofun
  refine zaD (SqT.of hT) (v:=.ref gv) (zan (j:=2) rfl) ?_
  nofun
  refine⟨r,dr,_,rfl,hr',zbH (by decide +kernel),?_⟩
  nofun
  refine zaD (SqT.of hT) (v:=.int m) (zan (j:=1) rfl) ?_
  nofun
  refine⟨p,(C 5),dp,_,_,rfl,f1,Z.c_Frame,Z.n_Frame_hands,zbR _ _ _ _,?_⟩
  nofun
  refine zaD (SqT.of hgv) (v:=.int g0) zaB ?_
  nofun
  refine zaF (SqL.of f2) (zcc b0.1 (by omega)) ?_
  nofun
  refine⟨p,(C 5),dp,_,_,rfl,f1,Z.c_Frame,Z.n_Frame_hands,zbR _ _ _ _,?_⟩
  nofun
  refine zaD (SqT.of hgv) (v:=.int g1) (zan (j:=1) rfl) ?_
  nofun
  refine zaF (SqL.of f2) (zcc b1.1 (by omega)) ?_
  nofun
  refine⟨(by walk_at "sm"),λg hg=>?_⟩
  have t2:=zah hg (.lst [V.int (f.hands.getD g0.toNat 0),.int (f.hands.getD g1.toNat 0)])
  nofun
  refine⟨r,ka,ia,sa,ks,cr,(p,ha,aa)::fas,s1,kfp,f,st,g,m,_,_,rfl,A1.same t2,hst1,hen1,.inl (SqL.of zad),wfs,⟨m,g0,g1,t0,t1,hat⟩,by omega,λH4 fas4 m4 A4=>?_⟩
  nofun
  exact q H4 fas4 ((zaq.same t2).trans m4) A4
inductive Qd (K:Fg) (C:Nat→Addr) (vs:List V) (H:Hp) (Q:VK) (E:XK):Prop
 | mk (r ka ia sa:Addr) (ks:List Int) (cr:Int→Cr) (fas:List Fa) (s:Rs) (kfp:List Addr) (fuel:Int):vs=[.ref r,.int fuel]→RunX (C 6) (C 5) (C 7) H r ka ia sa ks cr fas s kfp→WfR ks cr s→s.st.length≤20→(∀ v H' fas',zaq (zas r ia sa fas) H (zas r ia sa fas') H'→RunX (C 6) (C 5) (C 7) H' r ka ia sa ks cr fas' (goR cr ks fuel.toNat s) kfp→zp4 H' (goR cr ks fuel.toNat s).en v→WfR ks cr (goR cr ks fuel.toNat s)→(goR cr ks fuel.toNat s).st.length≤20→Q v H')→Qd K C vs H Q E
theorem zlJ {f:Addr}{fd:FuncData}(B:Bl K mg) {C:Nat→Addr}(Z:Zt K mg C) (G_Run_step:Mth CX0 P w K mg base (C 6) "step" ["self"] 9 (Q15 K C)) (F:Fun K "go" "Run.go" Qc f fd) (M:Meth K (C 6) "go" f):Mth CX0 P w K mg base (C 6) "go" ["self","fuel"] 10 (Qd K C):=by
 refine⟨f,fd,M,F.ok (k:=9) zhT (λvs H Q E h=>?_) (λcdv A outer s H vs Q E hr h=>?_),F.binds λ_ _ _ _ _ _ us hl=>match us,hl with | [_,_],_=>rfl⟩
 ·first
  | (obtain⟨_,_,_,_,_,_,_,_,_,_,rfl,_⟩:=h;rfl)
 obtain⟨r,ka,ia,sa,ks,cr,fas,s',kfp,fuel,rfl,A',hW,l20,q⟩:=h
 refine⟨_,(zae (zgA PassesOwn.never (PW.pt (zks (zau zoU (pv 1) zaa (zay _)) (zij (zau zfd (zaI K (pv 0) rfl) zcN (zay _))))) (zae (zaW (zby G_Run_step Z.c_Run hr za5 (pv 0)))
   (zag (zaA (i:=1) zhT.nd rfl (Or.inl rfl) (zaE zky (pv 1) zaa)))))
   (zae (zaR (zau zfd (zaI K (pv 0) rfl) zcN (zay _)) (zag (zar (zaZ (zaf zaJ zab)))) zax)
   (zag (zar (zaI K (pv 0) rfl))))),?_⟩
 with_reducible refine zee (λσ H2=>∃ fu fas2,A5 (σ=[some (.ref r),some (.int fu)]) (WfR ks cr (goR cr ks fuel.toNat s')) ((goR cr ks fuel.toNat s').st.length≤20) (zaq (zas r ia sa fas) H (zas r ia sa fas2) H2) (RunX (C 6) (C 5) (C 7) H2 r ka ia sa ks cr fas2 (goR cr ks fuel.toNat s') kfp)) (λNX tail=>?_) ?_
 ·refine⟨(λm σ H2=>E3 λfu fas2 s2=>A7 (σ=[some (.ref r),some (.int fu)]) (m=fu.toNat) (goR cr ks fu.toNat s2=goR cr ks fuel.toNat s') (WfR ks cr s2) (s2.st.length≤20) (zaq (zas r ia sa fas) H (zas r ia sa fas2) H2) (RunX (C 6) (C 5) (C 7) H2 r ka ia sa ks cr fas2 s2 kfp)),⟨_,fuel,fas,s',rfl,rfl,rfl,hW,l20,zaq.refl,A'⟩,?_⟩
  rintro m σ H2 ⟨fu,fas2,s2,rfl,rfl,eg,w2,l2,m2,A2⟩
  obtain⟨dr2,ev2,hr2,en2⟩:=A2.ins
  have en2:=en2.none_iff
  nofun
  by_cases hf:0<fu
  ·rw[decide_eq_true hf]
   nofun
   refine⟨r,(C 6),dr2,_,_,rfl,hr2,Z.c_Run,Z.n_Run_ending,zdu,?_⟩
   nofun
   refine⟨rfl,?_⟩
   rw[en2]
   nofun
   have e1:fu.toNat=(fu - 1).toNat+1:=by omega
   cases he:s2.en with
   | some x=>
    dsimp only[Option.isNone]
    nofun
    rw[ziJ (by rw[he];intro z;cases z)] at eg
    subst eg
    exact tail _ _ ⟨fu,fas2,rfl,w2,l2,m2,A2⟩
   | none=>
    dsimp only[Option.isNone]
    nofun
    refine⟨(λσ H3=>∃ fas3 s3,A6 (σ=[some (.ref r),some (.int (fu - 1))]) (goR cr ks (fu - 1).toNat s3=goR cr ks fuel.toNat s') (WfR ks cr s3) (s3.st.length≤20) (zaq (zas r ia sa fas) H (zas r ia sa fas3) H3) (RunX (C 6) (C 5) (C 7) H3 r ka ia sa ks cr fas3 s3 kfp)),λσ' H' ⟨fas3,s3,z1,z2,z3,z4,z5,z6⟩=>⟨(fu - 1).toNat,by omega,fu - 1,fas3,s3,z1,rfl,z2,z3,z4,z5,z6⟩,?_⟩
    nofun
    walk_at "q"
    nofun
    refine⟨r,dr2,_,rfl,hr2,zbH (by decide +kernel),?_⟩
    nofun
    refine⟨r,ka,ia,sa,ks,cr,fas2,s2,kfp,rfl,A2,w2,he,l2,λH3 fas3 m3 A3=>?_⟩
    nofun
    rw[e1] at eg
    have e2:goR cr ks ((fu - 1).toNat+1) s2=goR cr ks (fu - 1).toNat (zci cr ks s2):=by
     show (if s2.en=none then _ else _)=_
     rw[if_pos he]
    rw[e2] at eg
    exact⟨fas3,_,rfl,eg,zjo A2.kn.rt w2 he,zhN l2,m2.trans m3,A3⟩
  ·rw[decide_eq_false hf]
   nofun
   have e0:fu.toNat=0:=by omega
   rw[e0] at eg
   have eg:s2=goR cr ks fuel.toNat s':=eg
   subst eg
   exact tail _ _ ⟨fu,fas2,rfl,w2,l2,m2,A2⟩
 ·rintro σ H2 ⟨fu,fas2,rfl,w2,l2,m2,A2⟩
  obtain⟨dr2,ev2,hr2,en2⟩:=A2.ins
  have en2':=en2.none_iff
  have q:=λv H' m A t=>q v H' fas2 m A t w2 l2
  generalize goR cr ks fuel.toNat s'=s2 at *
  nofun
  walk_at "q"
  nofun
  refine⟨r,(C 6),dr2,_,_,rfl,hr2,Z.c_Run,Z.n_Run_ending,zdu,?_⟩
  nofun
  refine⟨rfl,?_⟩
  rw[en2']
  nofun
  cases he:s2.en with
  | some x=>
   dsimp only[Option.isNone]
   rw[he] at en2 q
   obtain⟨T,rfl,hT⟩:=en2
   nofun
   refine⟨r,(C 6),dr2,_,_,rfl,hr2,Z.c_Run,Z.n_Run_ending,zdu,?_⟩
   exact q _ H2 m2 A2 ⟨T,rfl,hT⟩
  | none=>
   dsimp only[Option.isNone]
   rw[he] at q
   nofun
   refine⟨(by walk_at "sm"),λT hT=>?_⟩
   have t3:=zah hT (.tup [V.str "cut"])
   exact q _ _ (m2.trans (zaq.same t3)) (A2.same t3) ⟨T,rfl,zad⟩
inductive Qf (K:Fg) (C:Nat→Addr) (vs:List V) (H:Hp) (Q:VK) (E:XK):Prop
 | mk (r ka ia sa:Addr) (ks:List Int) (cr:Int→Cr) (fas:List Fa) (s:Rs) (kfp:List Addr):vs=[.ref r]→RunX (C 6) (C 5) (C 7) H r ka ia sa ks cr fas s kfp→Q (.int s.k) H→Qf K C vs H Q E
theorem zh5 {f:Addr}{fd:FuncData}(B:Bl K mg) {C:Nat→Addr}(Z:Zt K mg C)  (F:Fun K "steps" "Run.steps" Qe f fd) (M:Meth K (C 6) "steps" f):Mth CX0 P w K mg base (C 6) "steps" ["self"] 1 (Qf K C):=by
 refine⟨f,fd,M,F.ok (k:=0) zhU (λvs H Q E h=>?_) (λcdv A outer s H vs Q E hr h=>?_),F.binds λ_ _ _ _ _ _ us hl=>match us,hl with | [_],_=>rfl⟩
 ·first
  | (obtain⟨_,_,_,_,_,_,_,_,_,rfl,_⟩:=h;rfl)
 obtain⟨r,ka,ia,sa,ks,cr,fas,s',kfp,rfl,A',q⟩:=h
 refine⟨_,(zag (zar (zaI K (pv 0) rfl))),?_⟩
 obtain⟨dr,ev,hr',_⟩:=A'.ins
 nofun
 refine⟨r,(C 6),dr,_,_,rfl,hr',Z.c_Run,Z.n_Run_steps_done,zjq,?_⟩
 exact q
def fmD (f:Fm):D:=.tup [.int f.n,.int f.p]
inductive Q12 (K:Fg) (C:Nat→Addr) (vs:List V) (H:Hp) (Q:VK) (E:XK):Prop
 | mk (r ka ia sa:Addr) (ks:List Int) (cr:Int→Cr) (fas:List Fa) (s:Rs) (kfp:List Addr):vs=[.ref r]→RunX (C 6) (C 5) (C 7) H r ka ia sa ks cr fas s kfp→s.st.length≤20→(∀ v H',Same H H'→New H H' (.lst (s.st.reverse.map fmD)) v→Q v H')→Q12 K C vs H Q E
theorem zcr.at {cF:Addr}{H:Hp} : ∀ {st:List Fm}{fas:List Fa},zcr cF H st fas→∀ (i:Nat) f t,st[i]?=some f→fas[i]?=some t→∃ dx,H t.1=some (.ins cF dx (ffl f.n f.p t.2.1 t.2.2))
 | [],[],_,i,f,t,e,_=>by simp at e
 | f::st,(p,ha,aa)::r,h,0,g,t,e1,e2=>by simp at e1 e2;subst e1;subst e2;exact h.1
 | f::st,(p,ha,aa)::r,h,i+1,g,t,e1,e2=>zcr.at h.2.2.2 i g t (by simpa using e1) (by simpa using e2)
 | [],_::_,h,_,_,_,_,_=>h.elim
 | _::_,[],h,_,_,_,_,_=>h.elim
theorem zgU {f:Addr}{fd:FuncData}(B:Bl K mg) {C:Nat→Addr}(Z:Zt K mg C)  (F:Fun K "frames" "Run.frames" Q11 f fd) (M:Meth K (C 6) "frames" f):Mth CX0 P w K mg base (C 6) "frames" ["self"] 1 (Q12 K C):=by
 refine⟨f,fd,M,F.ok (k:=0) zgR (λvs H Q E h=>?_) (λcdv A outer s H vs Q E hr h=>?_),F.binds λ_ _ _ _ _ _ us hl=>match us,hl with | [_],_=>rfl⟩
 ·first
  | (obtain⟨_,_,_,_,_,_,_,_,_,rfl,_⟩:=h;rfl)
 obtain⟨r,ka,ia,sa,ks,cr,fas,s',kfp,rfl,A',l20,q⟩:=h
 refine⟨_,(zag (zar (zbE rfl (COk.m (sc0:=zai Q11) (N:=["self"]) (N':=["self","frame"]) (ms:=[false,true])) (zbO K (zaI K (pv 0) rfl)) (λ_ _ _ _ _=>(zaK (i:=1) (ndS (N:=["self","frame"])) rfl (Or.inl rfl))) (λ_ _ _ _ _=>za0) (λ_ _ _ _ _=>(zaZ (zbd (zaI K (pv 1) rfl) (zbd (zaI K (pv 1) rfl) zab))))))),?_⟩
 obtain⟨dr,ev,hr',_⟩:=A'.ins
 have fl:=A'.fr.len
 nofun
 refine⟨r,(C 6),dr,_,_,rfl,hr',Z.c_Run,Z.n_Run_stack,zbo,?_⟩
 refine⟨sa,rfl,⟨_,SqL.of A'.sta⟩,?_⟩
 refine za8 (zbh (SqL.of A'.sta)) (s'.st.reverse.map fmD) (by simp[fl]) (zaC (by simp;omega)) (λj x d H2 R hj hd s2 hx hR=>?_) (λv H2 s2 n2=>?_)
 ·have hj':j<fas.length:=by simpa using hj
  rw[zgm] at hd hx
  obtain⟨f,hf,rfl⟩:=zme.mp hd
  obtain⟨t,ht,rfl⟩:=zme.mp hx
  rw[List.getElem?_reverse (by omega)] at hf
  rw[List.getElem?_reverse hj'] at ht
  rw[fl] at hf
  obtain⟨dx,hp⟩:=A'.fr.at _ f t hf ht
  have hp:=s2 _ _ hp
  nofun
  refine⟨t.1,(C 5),dx,_,_,rfl,hp,Z.c_Frame,Z.n_Frame_number,zfz _ _ _ _,?_⟩
  nofun
  refine⟨t.1,(C 5),dx,_,_,rfl,hp,Z.c_Frame,Z.n_Frame_place,zb1 _ _ _ _,?_⟩
  nofun
  refine⟨(by walk_at "sm"),λT hT=>?_⟩
  exact hR _ _ (zah hT _) (New.tup (zak.cint (zak.cint zak.nil)) List.nodup_nil (λ_ z=>by cases z) zad)
 ·exact q v H2 s2 n2
def zcG (deeds:List Dd) (i:Nat):Bool:=match deeds[i]? with
 | some d=>(zd1 d).isSome
 | none=>false
def zeQ (deeds:List Dd) (i:Nat):D:=match deeds[i]? with
 | some d=>.int ((zd1 d).getD 0)
 | none=>.int 0
theorem zgx:∀ (deeds:List Dd),((List.range deeds.length).filter (zcG deeds)).map (zeQ deeds)=(zey deeds).map D.int
 | []=>rfl
 | d::ds=>by
  have ih:=zgx ds
  have f:(List.map Nat.succ (List.range ds.length)).filter (zcG (d::ds))=((List.range ds.length).filter (zcG ds)).map Nat.succ:=by
   rw[List.filter_map];rfl
  have g:(((List.range ds.length).filter (zcG ds)).map Nat.succ).map (zeQ (d::ds))=(zey ds).map D.int:=by
   rw[List.map_map,←ih];rfl
  rw[List.length_cons,List.range_succ_eq_map,List.filter_cons,f]
  unfold zey at g ⊢
  cases e:zd1 d with
  | none=>
   rw[show zcG (d::ds) 0=false by unfold zcG;simp[e],if_neg (by decide),List.filterMap_cons,e]
   exact g
  | some m=>
   rw[show zcG (d::ds) 0=true by unfold zcG;simp[e],if_pos rfl,List.filterMap_cons,e,zmc,zmc,g,show zeQ (d::ds) 0=.int m by unfold zeQ;simp[e]]
theorem zlK (deeds:List Dd) (n:Nat) (h:n=deeds.length):((List.range n).filter (zcG deeds)).map (zeQ deeds)=(zey deeds).map D.int:=by
 subst h;exact zgx deeds
inductive Q48 (K:Fg) (C:Nat→Addr) (vs:List V) (H:Hp) (Q:VK) (E:XK):Prop
 | mk (p:Addr) (dx b3:Addr) (w1 w2 w4:V) (dvs:List V) (deeds:List Dd):vs=[.ref p]→H p=some (.ins (C 7) dx (flds w1 w2 (.ref b3) w4))→H b3=some (.lst dvs)→zc4 H deeds dvs→deeds.length≤1000→(∀ v H',Same H H'→New H H' (nums (zey deeds)) v→Q v H')→Q48 K C vs H Q E
theorem zh6 {f:Addr}{fd:FuncData}(B:Bl K mg) {C:Nat→Addr}(Z:Zt K mg C)  (F:Fun K "called_by" "called_by" Q47 f fd) (m:mg "called_by"=some (.ref f)):Fn P w K mg base "called_by" ["craft"] 1 (Q48 K C):=by
 refine Fn.of (k:=0) F zhW m (λ_ _ _ _ _ _ us hl=>match us,hl with | [_],_=>rfl) (λvs H Q E h=>?_) (λcdv A outer s H vs Q E hr h=>?_)
 ·first
  | (obtain⟨_,_,_,_,_,_,_,_,rfl,_⟩:=h;rfl)
 obtain⟨p,dx,b3,w1,w2,w4,dvs,deeds,rfl,hp,hb3,hD,hl,q⟩:=h
 refine⟨_,(zag (zar (zbE rfl (COk.m (sc0:=zai Q47) (N:=["craft"]) (N':=["craft","deed"]) (ms:=[false,true])) (zbO K (zaI K (pv 0) rfl)) (λ_ _ _ _ _=>(zaK (i:=1) (ndS (N:=["craft","deed"])) rfl (Or.inl rfl))) (λ_ _ _ _ _=>(zmd (zau (k_eq K hr) (zao (k_ix K) (pv 1) zaa (λ_ _=>rfl)) zaJ (zay _)))) (λ_ _ _ _ _=>(zao (k_ix K) (pv 1) zaa (λ_ _=>rfl)))))),?_⟩
 have ld:=hD.1
 ac_rfl
 refine⟨p,(C 7),dx,_,_,rfl,hp,Z.c_Craft,Z.n_Craft_deeds,zcg _ _ _ _,?_⟩
 refine⟨b3,rfl,⟨_,SqL.of hb3⟩,?_⟩
 refine zk8 (zbh (SqL.of hb3)) (zcG deeds) (zeQ deeds) (zaC (by omega)) (λi x H1 R1 R2' hi s1 hx hy hn=>?_) (λv H1 s1 n1=>?_)
 ·have hi':i<deeds.length:=by omega
  have drx:=(hD.2 i deeds[i] x (by simp) hx).sq s1.sq
  have ek:zcG deeds i=(zd1 deeds[i]).isSome:=by unfold zcG;simp[hi']
  have en:zeQ deeds i=.int ((zd1 deeds[i]).getD 0):=by unfold zeQ;simp[hi']
  generalize deeds[i]=d at drx ek en
  obtain⟨t,xs,rfl,ht⟩:=zoi drx
  nofun
  refine zaD (SqT.of ht) zaB ?_
  nofun
  have ew:decide (zoh d ="call")=zcG deeds i:=by
   rw[ek]
   cases d <;> first | rfl | (unfold zoh zd1;decide +kernel)
  rw[ew]
  cases hk:zcG deeds i with
  | false=>
   rw[if_neg (by decide)]
   exact hn hk _ (Same.refl _)
  | true=>
   rw[if_pos rfl]
   rw[hk] at ek
   cases d with
   | call m g0 g1 t0 t1=>
    obtain⟨t',ys,et,hT2,px⟩:=zaT drx
    cases et
    obtain⟨x0,r,rfl,e0,px⟩:=zal px
    obtain⟨x1,r,rfl,e1,px⟩:=zal px
    cases za4 e1
    nofun
    refine zaD (SqT.of hT2) (v:=.int m) (zan (j:=1) rfl) ?_
    refine hy hk _ _ (Same.refl _) ?_
    rw[en]
    exact New.int
   | _=>cases ek
 ·ac_rfl
  rw[zlK deeds _ ld.symm] at n1
  exact q _ _ s1 n1
inductive Q6c (K:Fg) (vs:List V) (H:Hp) (Q:VK) (E:XK):Prop
 | mk (a b c:Int):vs=[.int a,.int b,.int c]→Q (.bl (decide (a≤b) && decide (b≤c))) H→Q6c K vs H Q E
theorem zcV {H:Hp}{Q:VK}{E:XK}{a b c:Int}(q:Q (.bl (decide (a≤b) && decide (b≤c))) H):Q6c K [.int a,.int b,.int c] H Q E:=⟨a,b,c,rfl,q⟩
theorem zki {f:Addr}{fd:FuncData}(B:Bl K mg) {C:Nat→Addr}(Z:Zt K mg C)  (F:Fun K "between" "between" Q6b f fd) (m:mg "between"=some (.ref f)):Fn P w K mg base "between" ["low","number","high"] 1 (Q6c K):=by
 refine Fn.of (k:=0) F zkf m (λ_ _ _ _ _ _ us hl=>match us,hl with | [_,_,_],_=>rfl) (λvs H Q E h=>?_) (λcdv A outer s H vs Q E hr h=>?_)
 ·first
  | (obtain⟨_,_,_,rfl,_⟩:=h;rfl)
 obtain⟨a,b,c,rfl,q⟩:=h
 refine⟨_,(zag (zar (zlZ zg9 zg9 (pv 0) (pv 1) (pv 2)))),?_⟩
 ac_rfl
 cases h:decide (a≤b) with
 | false=>rw[h] at q;ac_rfl;exact q
 | true=>rw[h] at q;ac_rfl;exact q
def zbU (K:Fg):Sp:=λvs H Q _=>∃ n:Int,vs=[.int n]∧Q (.bl (zdq n)) H
theorem ziZ {H:Hp}{Q:VK}{E:XK}{n:Int}(q:Q (.bl (zdq n)) H):zbU K [.int n] H Q E:=⟨n,rfl,q⟩
theorem zfS {f:Addr}{fd:FuncData}(B:Bl K mg) {C:Nat→Addr}(Z:Zt K mg C) (Q6d:Fn P w K mg base "between" ["low","number","high"] 1 (Q6c K)) (F:Fun K "small_enough" "small_enough" Q69 f fd) (m:mg "small_enough"=some (.ref f)):Fn P w K mg base "small_enough" ["number"] 2 (zbU K):=by
 refine Fn.of (k:=1) F zfL m (λ_ _ _ _ _ _ us hl=>match us,hl with | [_],_=>rfl) (λvs H Q E h=>?_) (λcdv A outer s H vs Q E hr h=>?_)
 ·first
  | (obtain⟨_,rfl,_⟩:=h;rfl)
 obtain⟨n,rfl,q⟩:=h
 refine⟨_,(zag (zar (zat Q6d hr rfl (zmw (zcX zbM (zdm rfl B.c_GREATEST)) (zac (pv 0) (zac (zdm rfl B.c_GREATEST) zab)))))),?_⟩
 ac_rfl
 refine zcV ?_
 exact q
inductive Q59 (K:Fg) (vs:List V) (H:Hp) (Q:VK) (E:XK):Prop
 | mk (a t:Addr) (l:List Int) (spots:List Nat):vs=[.ref a,.ref t]→SqL K H a (l.map V.int)→SqT K H t (spots.map λ(s:Nat)=>V.int (s:Int))→l.length=9→spots.length≤9→(∀ s∈spots,s<9)→(∀ H',Same H H'→Q (.bl (zbB spots l)) H')→Q59 K vs H Q E
theorem zgV {f:Addr}{fd:FuncData}(B:Bl K mg) {C:Nat→Addr}(Z:Zt K mg C) (Q6a:Fn P w K mg base "small_enough" ["number"] 2 (zbU K)) (F:Fun K "line_right" "line_right" Q58 f fd) (m:mg "line_right"=some (.ref f)):Fn P w K mg base "line_right" ["line","nought_spots"] 3 (Q59 K):=by
 refine Fn.of (k:=2) F zeo m (λ_ _ _ _ _ _ us hl=>match us,hl with | [_,_],_=>rfl) (λvs H Q E h=>?_) (λcdv A outer s H vs Q E hr h=>?_)
 ·first
  | (obtain⟨_,_,_,_,rfl,_⟩:=h;rfl)
 obtain⟨a,t,l,spots,rfl,hA,hT,l9,ls9,hs,q⟩:=h
 refine⟨_,(zae (zaA (i:=2) zeo.nd rfl (Or.inl rfl) (zaH (zjX K rfl) rfl B.all L2.zdC (zd0 (zbE rfl (COk.m (sc0:=zai Q58) (N:=["line","nought_spots","small"]) (N':=["line","nought_spots","small","number"]) (ms:=[false,false,false,true])) (zbO K (pv 0)) (λ_ _ _ _ _=>(zaK (i:=3) (ndS (N:=["line","nought_spots","small","number"])) rfl (Or.inl rfl))) (λ_ _ _ _ _=>za0) (λ_ _ _ _ _=>(zat Q6a hr rfl (zac (pv 3) zab)))) zab)))
   (zag (zar (zbu (pv 2) (zbV (zaH (zjX K rfl) rfl B.all L2.zdC (zd0 (zbE rfl (COk.m (sc0:=zai Q58) (N:=["line","nought_spots","small"]) (N':=["line","nought_spots","small","spot"]) (ms:=[false,false,false,true])) (zlb K (pv 1)) (λ_ _ _ _ _=>(zaK (i:=3) (ndS (N:=["line","nought_spots","small","spot"])) rfl (Or.inl rfl))) (λ_ _ _ _ _=>za0) (λ_ _ _ _ _=>(zbD (k_eq K hr) (zao (k_ix K) (pv 0) (pv 3) (λ_ _=>rfl)) zaa (zay _)))) zab))))))),?_⟩
 unfold zbB at q
 ac_rfl
 refine⟨a,rfl,⟨_,hA⟩,?_⟩
 refine za8 (zbh hA) ((l.map zdq).map D.bl) (by simp) (zaC (by simp;omega)) (λk x d H1 R hk hd s1 hx hR=>?_) (λv H1 s1 n1=>?_)
 ·rw[zgm] at hx
  obtain⟨y,hy,rfl⟩:=zme.mp hx
  rw[zgm,zgm,hy] at hd
  cases hd
  ac_rfl
  refine ziZ ?_
  exact hR _ _ (Same.refl _) New.bl
 obtain⟨la,rfl,la0,la1⟩:=New.bls n1
 ac_rfl
 refine zjW (SqL.of la1) ?_
 ac_rfl
 refine zeS (λe=>?_) (λe=>by have q1:=q _ s1;rw[e] at q1;exact q1)
 rw[e,Bool.true_and] at q
 ac_rfl
 refine⟨t,rfl,⟨_,s1.tup hT⟩,?_⟩
 refine za8 (zgJ (s1.tup hT)) ((spots.map λs=>decide (l.getD s 0=0)).map D.bl) (by simp) (zaC (by simp;omega)) (λk x d H2 R hk hd s2 hx hR=>?_) (λv H2 s2 n2=>?_)
 ·rw[zgm] at hx
  obtain⟨sp,hsp,rfl⟩:=zme.mp hx
  rw[zgm,zgm,hsp] at hd
  cases hd
  have sl:sp<l.length:=by have:=hs sp (zmg hsp);omega
  ac_rfl
  refine zaF ((s1.trans s2).seq hA) (v:=.int (l.getD sp 0)) (zan (by simp[sl])) ?_
  ac_rfl
  exact hR _ _ (Same.refl _) New.bl
 obtain⟨lb,rfl,lb0,lb1⟩:=New.bls n2
 ac_rfl
 refine zjW (SqL.of lb1) ?_
 exact q _ (s1.trans s2)
inductive Q56 (K:Fg) (vs:List V) (H:Hp) (Q:VK) (E:XK):Prop
 | mk (a t:Addr) (ls:List (List Int)) (spots:List Nat):vs=[.ref a,.ref t]→Rep K H (zaG ls) (.ref a)→SqT K H t (spots.map λ(s:Nat)=>V.int (s:Int))→ls.length≤1000→(∀ l∈ls,l.length=9)→spots.length≤9→(∀ s∈spots,s<9)→(∀ H',Same H H'→Q (.bl (zco spots ls)) H')→Q56 K vs H Q E
theorem zga {f:Addr}{fd:FuncData}(B:Bl K mg) {C:Nat→Addr}(Z:Zt K mg C) (Q5a:Fn P w K mg base "line_right" ["line","nought_spots"] 3 (Q59 K)) (F:Fun K "lines_right" "lines_right" Q55 f fd) (m:mg "lines_right"=some (.ref f)):Fn P w K mg base "lines_right" ["lines","nought_spots"] 4 (Q56 K):=by
 refine Fn.of (k:=3) F zf4 m (λ_ _ _ _ _ _ us hl=>match us,hl with | [_,_],_=>rfl) (λvs H Q E h=>?_) (λcdv A outer s H vs Q E hr h=>?_)
 ·first
  | (obtain⟨_,_,_,_,rfl,_⟩:=h;rfl)
 obtain⟨a,t,ls,spots,rfl,hA,hT,l1000,h9,ls9,hs,q⟩:=h
 refine⟨_,(zag (zar (zbu (zbD zg9 (zaH (zdY K) rfl B.len L2.boot_len (zac (pv 0) zab)) (zdm rfl B.c_MOST_LINES) (zay _)) (zbV (zaH (zjX K rfl) rfl B.all L2.zdC (zd0 (zbE rfl (COk.m (sc0:=zai Q55) (N:=["lines","nought_spots"]) (N':=["lines","nought_spots","line"]) (ms:=[false,false,true])) (zbO K (pv 0)) (λ_ _ _ _ _=>(zaK (i:=2) (ndS (N:=["lines","nought_spots","line"])) rfl (Or.inl rfl))) (λ_ _ _ _ _=>za0) (λ_ _ _ _ _=>(zat Q5a hr rfl (zac (pv 2) (zac (pv 1) zab))))) zab)))))),?_⟩
 unfold zaG Rep at hA
 obtain⟨a',xs,e,hA,hx⟩:=hA
 cases e
 have lx:=hx.length
 rw[zlm] at lx
 unfold zco at q
 ac_rfl
 refine zdX (.inl hA) ?_
 ac_rfl
 rw[←lx]
 refine zeS (λe=>?_) (λe=>by have q1:=q _ (Same.refl _);rw[e] at q1;exact q1)
 rw[e,Bool.true_and] at q
 ac_rfl
 refine⟨a,rfl,⟨_,hA⟩,?_⟩
 refine za8 (zbh hA) ((ls.map (zbB spots)).map D.bl) (by simp;omega) (zaC (by omega)) (λk x d H1 R hk hd s1 hx' hR=>?_) (λv H1 s1 n1=>?_)
 ·obtain⟨d2,hd2,hrx⟩:=Reps.get' hx hx'
  rw[zgm] at hd2
  obtain⟨l,hl,rfl⟩:=zme.mp hd2
  rw[zgm,zgm,hl] at hd
  cases hd
  obtain⟨xa,rfl,hxa⟩:=zcf.mp (Rep.same s1 _ hrx)
  ac_rfl
  refine⟨xa,t,l,spots,rfl,hxa,s1.tup hT,h9 l (zmg hl),ls9,hs,λH2 s2=>?_⟩
  exact hR _ _ s2 New.bl
 obtain⟨la,rfl,la0,la1⟩:=New.bls n1
 ac_rfl
 refine zjW (SqL.of la1) ?_
 exact q _ s1
inductive Q4d (K:Fg) (C:Nat→Addr) (vs:List V) (H:Hp) (Q:VK) (E:XK):Prop
 | mk (p:Addr) (needs leaves:List (List Int)) (ds:List D) (notes:List (List (List Int))):vs=[.ref p]→zbG K (C 7) H p needs leaves ds notes→needs.length≤1000→leaves.length≤1000→(∀ l∈needs,l.length=9)→(∀ l∈leaves,l.length=9)→(∀ H',Same H H'→Q (.bl (zeN needs leaves)) H')→Q4d K C vs H Q E
theorem zgW {f:Addr}{fd:FuncData}(B:Bl K mg) {C:Nat→Addr}(Z:Zt K mg C) (Q57:Fn P w K mg base "lines_right" ["lines","nought_spots"] 4 (Q56 K)) (F:Fun K "oath_right" "oath_right" Q4c f fd) (m:mg "oath_right"=some (.ref f)):Fn P w K mg base "oath_right" ["craft"] 5 (Q4d K C):=by
 refine Fn.of (k:=4) F zen m (λ_ _ _ _ _ _ us hl=>match us,hl with | [_],_=>rfl) (λvs H Q E h=>?_) (λcdv A outer s H vs Q E hr h=>?_)
 ·first
  | (obtain⟨_,_,_,_,_,rfl,_⟩:=h;rfl)
 obtain⟨p,needs,leaves,ds,notes,rfl,hC,ln,ll,h9n,h9l,q⟩:=h
 obtain⟨gl,g_LEFT_SPOTS,hL⟩:=B.t_LEFT_SPOTS
 obtain⟨gh,g_HAND_SPOTS,hH⟩:=B.t_HAND_SPOTS
 have sp9:∀ s∈([1,2,3,4,7,8]:List Nat),s<9:=by decide
 have sp4:∀ s∈([1,2,3,4]:List Nat),s<9:=by decide
 refine⟨_,(zae (zaA (i:=1) zen.nd rfl (Or.inl rfl) (zat Q57 hr rfl (zbd (zaI K (pv 0) rfl) (za6 (zaE (zaO K) (zcI rfl g_HAND_SPOTS) (zcI rfl g_LEFT_SPOTS)) zab))))
   (zag (zar (zbu (pv 1) (zbV (zat Q57 hr rfl (zbd (zaI K (pv 0) rfl) (zac (zcI rfl g_HAND_SPOTS) zab)))))))),?_⟩
 obtain⟨dx,w1,w2,w3,w4,hp,r1,r2,r3,r4⟩:=hC
 obtain⟨b1,rfl⟩:∃ b,w1=.ref b:=by unfold zaG Rep at r1;obtain⟨a,_,e,_⟩:=r1;exact⟨a,e⟩
 obtain⟨b2,rfl⟩:∃ b,w2=.ref b:=by unfold zaG Rep at r2;obtain⟨a,_,e,_⟩:=r2;exact⟨a,e⟩
 unfold zeN at q
 ac_rfl
 refine⟨p,(C 7),dx,_,_,rfl,hp,Z.c_Craft,Z.n_Craft_needs,zcA _ _ _ _,?_⟩
 ac_rfl
 refine zpG (hH _) (hL _) (by simp) (by simp) ((by walk_at "sm")) λt t0=>?_
 have s0:=zah t0 (.tup ([V.int 1,.int 2,.int 3,.int 4]++[V.int 7,.int 8]))
 ac_rfl
 refine⟨b1,t,needs,[1,2,3,4,7,8],rfl,Rep.same s0 _ r1,.inl (.inl zad),ln,h9n,by decide,sp9,λH1 s1=>?_⟩
 have s2:=s0.trans s1
 ac_rfl
 refine zeS (λe=>?_) (λe=>by have q1:=q _ s2;rw[e] at q1;exact q1)
 rw[e,Bool.true_and] at q
 ac_rfl
 refine⟨p,(C 7),dx,_,_,rfl,s2 _ _ hp,Z.c_Craft,Z.n_Craft_leaves,zcp _ _ _ _,?_⟩
 ac_rfl
 exact⟨b2,gh,leaves,[1,2,3,4],rfl,Rep.same s2 _ r2,hH _,ll,h9l,by decide,sp4,λH3 s3=>q _ (s2.trans s3)⟩
def zcj (K:Fg):Sp:=λvs H Q _=>∃ n:Int,vs=[.int n]∧Q (.bl (zbp n)) H
theorem zjy {H:Hp}{Q:VK}{E:XK}{n:Int}(q:Q (.bl (zbp n)) H):zcj K [.int n] H Q E:=⟨n,rfl,q⟩
theorem zgX {f:Addr}{fd:FuncData}(B:Bl K mg) {C:Nat→Addr}(Z:Zt K mg C) (Q6d:Fn P w K mg base "between" ["low","number","high"] 1 (Q6c K)) (F:Fun K "hand_right" "hand_right" Q67 f fd) (m:mg "hand_right"=some (.ref f)):Fn P w K mg base "hand_right" ["hand"] 2 (zcj K):=by
 refine Fn.of (k:=1) F zgS m (λ_ _ _ _ _ _ us hl=>match us,hl with | [_],_=>rfl) (λvs H Q E h=>?_) (λcdv A outer s H vs Q E hr h=>?_)
 ·first
  | (obtain⟨_,rfl,_⟩:=h;rfl)
 obtain⟨n,rfl,q⟩:=h
 refine⟨_,(zag (zar (zat Q6d hr rfl (zaf zaa (zac (pv 0) (zac (zdm rfl B.c_LAST_HAND) zab)))))),?_⟩
 ac_rfl
 refine zcV ?_
 exact q
inductive Q65 (K:Fg) (vs:List V) (H:Hp) (Q:VK) (E:XK):Prop
 | mk (a:Addr) (i j:Int):vs=[.ref a]→SqT K H a [.int i,.int j]→(∀ H',Same H H'→Q (.bl ([zbp i,zbp j].all id)) H')→Q65 K vs H Q E
theorem zes {f:Addr}{fd:FuncData}(B:Bl K mg) {C:Nat→Addr}(Z:Zt K mg C) (Q68:Fn P w K mg base "hand_right" ["hand"] 2 (zcj K)) (F:Fun K "two_hands_right" "two_hands_right" Q64 f fd) (m:mg "two_hands_right"=some (.ref f)):Fn P w K mg base "two_hands_right" ["hands"] 3 (Q65 K):=by
 refine Fn.of (k:=2) F zer m (λ_ _ _ _ _ _ us hl=>match us,hl with | [_],_=>rfl) (λvs H Q E h=>?_) (λcdv A outer s H vs Q E hr h=>?_)
 ·first
  | (obtain⟨_,_,_,rfl,_⟩:=h;rfl)
 obtain⟨a,i,j,rfl,hA,q⟩:=h
 refine⟨_,(zag (zar (zbu (zbD (k_eq K hr) (zaH (zdY K) rfl B.len L2.boot_len (zac (pv 0) zab)) zaa (zay _)) (zbV (zaH (zjX K rfl) rfl B.all L2.zdC (zd0 (zbE rfl (COk.m (sc0:=zai Q64) (N:=["hands"]) (N':=["hands","hand"]) (ms:=[false,true])) (zlb K (pv 0)) (λ_ _ _ _ _=>(zaK (i:=1) (ndS (N:=["hands","hand"])) rfl (Or.inl rfl))) (λ_ _ _ _ _=>za0) (λ_ _ _ _ _=>(zat Q68 hr rfl (zac (pv 1) zab)))) zab)))))),?_⟩
 ac_rfl
 refine zdX (.inr hA) ?_
 ac_rfl
 rw[show decide ((([V.int i,.int j].length:Nat):Int)=2)=true from rfl]
 ac_rfl
 refine⟨a,rfl,⟨_,hA⟩,?_⟩
 refine za8 (zgJ hA) ([zbp i,zbp j].map D.bl) rfl ((by walk_at "sm")) (λk x d H1 R hk hd s1 hx hR=>?_) (λv H1 s1 n1=>?_)
 ·have hx':([i,j].map V.int)[k]?=some x:=hx
  have hd':([i,j].map λz=>D.bl (zbp z))[k]?=some d:=hd
  rw[zgm] at hx' hd'
  obtain⟨y,hy,rfl⟩:=zme.mp hx'
  rw[hy] at hd'
  cases hd'
  ac_rfl
  refine zjy ?_
  exact hR _ _ (Same.refl _) New.bl
 obtain⟨la,rfl,la0,la1⟩:=New.bls n1
 ac_rfl
 refine zjW (SqL.of la1) ?_
 exact q _ s1
inductive Q62 (K:Fg) (vs:List V) (H:Hp) (Q:VK) (E:XK):Prop
 | mk (m:Int) (a b:Addr) (g0 g1 t0 t1:Int):vs=[.int m,.ref a,.ref b]→SqT K H a [.int g0,.int g1]→SqT K H b [.int t0,.int t1]→(∀ H',Same H H'→Q (.bl (([zbp g0,zbp g1].all id && [zbp t0,zbp t1].all id) && (btw 0 m 99 && !decide (t0=t1)))) H')→Q62 K vs H Q E
theorem zgY {f:Addr}{fd:FuncData}(B:Bl K mg) {C:Nat→Addr}(Z:Zt K mg C) (Q66:Fn P w K mg base "two_hands_right" ["hands"] 3 (Q65 K)) (Q6d:Fn P w K mg base "between" ["low","number","high"] 1 (Q6c K)) (F:Fun K "call_right" "call_right" Q61 f fd) (m:mg "call_right"=some (.ref f)):Fn P w K mg base "call_right" ["number","given","taken"] 4 (Q62 K):=by
 refine Fn.of (k:=3) F zeq m (λ_ _ _ _ _ _ us hl=>match us,hl with | [_,_,_],_=>rfl) (λvs H Q E h=>?_) (λcdv A outer s H vs Q E hr h=>?_)
 ·first
  | (obtain⟨_,_,_,_,_,_,_,rfl,_⟩:=h;rfl)
 obtain⟨m,a,b,g0,g1,t0,t1,rfl,hA,hB,q⟩:=h
 refine⟨_,(zae (zaA (i:=3) zeq.nd rfl (Or.inl rfl) (zbu (zat Q66 hr rfl (zac (pv 1) zab)) (zbV (zat Q66 hr rfl (zac (pv 2) zab)))))
   (zag (zar (zbu (pv 3) (zbu (zat Q6d hr rfl (zaf zaa (zac (pv 0) (zac (zdm rfl B.c_LAST_NUMBER) zab)))) (zbV (zbD (k_ne K hr) (zao (k_ix K) (pv 2) zaa (λ_ _=>rfl)) (zao (k_ix K) (pv 2) zaa (λ_ _=>rfl)) (zay _)))))))),?_⟩
 generalize eg:[zbp g0,zbp g1].all id=bg at q
 generalize et:[zbp t0,zbp t1].all id=bt at q
 ac_rfl
 refine⟨a,g0,g1,rfl,hA,λH1 s1=>?_⟩
 rw[eg]
 -- hands=.. and ..
 refine zcQ (λe=>?_) (λe=>?_)
 ·subst e
  ac_rfl
  refine⟨b,t0,t1,rfl,s1.tup hB,λH2 s2=>?_⟩
  rw[et]
  ac_rfl
  have s3:=s1.trans s2
  rw[Bool.true_and] at q
  refine zeS (λe=>?_) (λe=>by have q1:=q _ s3;rw[e] at q1;exact q1)
  rw[e,Bool.true_and] at q
  ac_rfl
  refine zcV ?_
  refine zcQ (λe=>?_) (λe=>by have q1:=q _ s3;unfold btw at q1;rw[e] at q1;exact q1)
  unfold btw at q
  rw[e,Bool.true_and] at q
  ac_rfl
  refine zaD (s3.tup hB) (v:=.int t0) rfl ?_
  ac_rfl
  refine zaD (s3.tup hB) (v:=.int t1) rfl ?_
  ac_rfl
  exact q _ s3
 ·subst e
  ac_rfl
  exact q _ s1
inductive Q5f (K:Fg) (vs:List V) (H:Hp) (Q:VK) (E:XK):Prop
 | mk (lo hi:Int):vs=[.int lo,.int hi]→Q (.bl (zdq lo && (zdq hi && decide (lo≤hi)))) H→Q5f K vs H Q E
theorem zgb {f:Addr}{fd:FuncData}(B:Bl K mg) {C:Nat→Addr}(Z:Zt K mg C) (Q6a:Fn P w K mg base "small_enough" ["number"] 2 (zbU K)) (F:Fun K "range_right" "range_right" Q5e f fd) (m:mg "range_right"=some (.ref f)):Fn P w K mg base "range_right" ["low","high"] 3 (Q5f K):=by
 refine Fn.of (k:=2) F zf5 m (λ_ _ _ _ _ _ us hl=>match us,hl with | [_,_],_=>rfl) (λvs H Q E h=>?_) (λcdv A outer s H vs Q E hr h=>?_)
 ·first
  | (obtain⟨_,_,rfl,_⟩:=h;rfl)
 obtain⟨lo,hi,rfl,q⟩:=h
 refine⟨_,(zag (zar (zbu (zat Q6a hr rfl (zac (pv 0) zab)) (zbu (zat Q6a hr rfl (zac (pv 1) zab)) (zbV (zbD zg9 (pv 0) (pv 1) (zay _))))))),?_⟩
 ac_rfl
 refine ziZ ?_
 refine zcQ (λe=>?_) (λe=>by rw[e] at q;exact q)
 rw[e,Bool.true_and] at q
 ac_rfl
 refine ziZ ?_
 refine zcQ (λe=>?_) (λe=>by rw[e] at q;exact q)
 rw[e,Bool.true_and] at q
 ac_rfl
 exact q
inductive Q5c (K:Fg) (vs:List V) (H:Hp) (Q:VK) (E:XK):Prop
 | mk (v:V) (n:Int) (d:Dd):vs=[v,.int n]→Rep K H (toD d) v→zdp d→(∀ H',Same H H'→Q (.bl (zaY n d)) H')→Q5c K vs H Q E
theorem zaP {K:Fg}{H:Hp}{d:D}{ds:List D}{xs:List V}(h:Reps K H (d::ds) xs):∃ v r,xs=v::r∧Rep K H d v∧Reps K H ds r:=by unfold Reps at h;exact h
theorem zc7 {K:Fg}{H:Hp}{xs:List V}(h:Reps K H [] xs):xs=[]:=by unfold Reps at h;exact h
theorem zcM {K:Fg}{H:Hp}{i:Int}{v:V}(h:Rep K H (.int i) v):v=.int i:=by unfold Rep at h;exact h
theorem zeG {K:Fg}{H:Hp}{i:Str}{v:V}(h:Rep K H (.str i) v):v=.str i:=by unfold Rep at h;exact h
theorem zjz {K:Fg}{H:Hp}{i j:Int}{v:V}(h:Rep K H (.tup [.int i,.int j]) v):∃ a,v=.ref a∧SqT K H a [.int i,.int j]:=by
 obtain⟨a,xs,rfl,h1,h2⟩:=zdZ h
 obtain⟨v1,r1,rfl,e1,h2⟩:=zaP h2
 obtain⟨v2,r2,rfl,e2,h2⟩:=zaP h2
 cases zc7 h2;cases zcM e1;cases zcM e2
 exact⟨a,rfl,h1⟩
theorem zov:decide (("part" : Str) ="set")=false:=by decide +kernel
theorem zlL:decide (("draw" : Str) ="set")=false∧decide (("draw" : Str) ="part")=false:=by decide +kernel
theorem zi0:decide (("turn" : Str) ="set")=false∧decide (("turn" : Str) ="part")=false∧decide (("turn" : Str) ="draw")=false:=by decide +kernel
theorem zgZ:decide (("hold" : Str) ="set")=false∧decide (("hold" : Str) ="part")=false∧decide (("hold" : Str) ="draw")=false∧decide (("hold" : Str) ="turn")=false:=by decide +kernel
theorem zfT:decide (("call" : Str) ="set")=false∧decide (("call" : Str) ="part")=false∧decide (("call" : Str) ="draw")=false∧decide (("call" : Str) ="turn")=false∧decide (("call" : Str) ="hold")=false:=by decide +kernel
theorem zg0 {f:Addr}{fd:FuncData}(B:Bl K mg) {C:Nat→Addr}(Z:Zt K mg C) (Q63:Fn P w K mg base "call_right" ["number","given","taken"] 4 (Q62 K)) (Q5a:Fn P w K mg base "line_right" ["line","nought_spots"] 3 (Q59 K)) (Q68:Fn P w K mg base "hand_right" ["hand"] 2 (zcj K)) (Q6d:Fn P w K mg base "between" ["low","number","high"] 1 (Q6c K)) (Q60:Fn P w K mg base "range_right" ["low","high"] 3 (Q5f K)) (F:Fun K "deed_right" "deed_right" Q5b f fd) (m:mg "deed_right"=some (.ref f)):Fn P w K mg base "deed_right" ["deed","last_place"] 5 (Q5c K):=by
 refine Fn.of (k:=4) F zep m (λ_ _ _ _ _ _ us hl=>match us,hl with | [_,_],_=>rfl) (λvs H Q E h=>?_) (λcdv A outer s H vs Q E hr h=>?_)
 ·first
  | (obtain⟨_,_,_,rfl,_⟩:=h;rfl)
 obtain⟨v,n,d,rfl,hR,h9,q⟩:=h
 obtain⟨gl,g_LEFT_SPOTS,hL⟩:=B.t_LEFT_SPOTS
 refine⟨_,(zae (zaA (i:=2) zep.nd rfl (Or.inl rfl) (zao (k_ix K) (pv 0) zaa (λ_ _=>rfl)))
   (zae (zaR (zau (k_eq K hr) (pv 2) zaJ (zay _)) (zag (zar (zbu (zat Q68 hr rfl (zaw (zao (k_ix K) (pv 0) zaa (λ_ _=>rfl)) zab)) (zbV (zat Q5a hr rfl (zaw (zao (k_ix K) (pv 0) zaa (λ_ _=>rfl)) (zac (zcI rfl g_LEFT_SPOTS) zab))))))) zax)
   (zae (zaR (zau (k_eq K hr) (pv 2) zaJ (zay _)) (zag (zar (zbu (zat Q68 hr rfl (zaw (zao (k_ix K) (pv 0) zaa (λ_ _=>rfl)) zab)) (zbu (zat Q5a hr rfl (zaw (zao (k_ix K) (pv 0) zaa (λ_ _=>rfl)) (zac (zcI rfl g_LEFT_SPOTS) zab))) (zbV (zat Q6d hr rfl (zaf zaa (zaw (zao (k_ix K) (pv 0) zaa (λ_ _=>rfl)) (zac (zdm rfl B.c_GREATEST_BY) zab))))))))) zax)
   (zae (zaR (zau (k_eq K hr) (pv 2) zaJ (zay _)) (zag (zar (zbu (zat Q68 hr rfl (zaw (zao (k_ix K) (pv 0) zaa (λ_ _=>rfl)) zab)) (zbV (zat Q60 hr rfl (zaw (zao (k_ix K) (pv 0) zaa (λ_ _=>rfl)) (zaw (zao (k_ix K) (pv 0) zaa (λ_ _=>rfl)) zab))))))) zax)
   (zae (zaR (zau (k_eq K hr) (pv 2) zaJ (zay _)) (zag (zar (zbu (zat Q5a hr rfl (zaw (zao (k_ix K) (pv 0) zaa (λ_ _=>rfl)) (zac (zcI rfl g_LEFT_SPOTS) zab))) (zbV (zat Q6d hr rfl (zaf zaa (zaw (zao (k_ix K) (pv 0) zaa (λ_ _=>rfl)) (zac (pv 1) zab)))))))) zax)
   (zae (zaR (zau (k_eq K hr) (pv 2) zaJ (zay _)) (zag (zar (zat Q5a hr rfl (zaw (zao (k_ix K) (pv 0) zaa (λ_ _=>rfl)) (zac (zcI rfl g_LEFT_SPOTS) zab))))) zax)
   (zag (zar (zat Q63 hr rfl (zaw (zao (k_ix K) (pv 0) zaa (λ_ _=>rfl)) (zaw (zao (k_ix K) (pv 0) zaa (λ_ _=>rfl)) (zaw (zao (k_ix K) (pv 0) zaa (λ_ _=>rfl)) zab)))))))))))),?_⟩
 have sp9:∀ s∈([7,8]:List Nat),s<9:=by decide
 cases d with
 | set hd l=>
  obtain⟨a,xs,rfl,hA,hx⟩:=zdZ hR
  obtain⟨v1,r1,rfl,e1,hx⟩:=zaP hx
  obtain⟨v2,r2,rfl,e2,hx⟩:=zaP hx
  obtain⟨v3,r3,rfl,e3,hx⟩:=zaP hx
  cases zc7 hx;cases zeG e1;cases zcM e2
  obtain⟨la,rfl,hla⟩:=zcf.mp e3
  ac_rfl
  refine zaD hA (v:=.str "set") rfl ?_
  ac_rfl
  rw[decide_eq_true rfl]
  ac_rfl
  refine zaD hA (v:=.int hd) rfl ?_
  ac_rfl
  refine zjy ?_
  show ∃ c,V.bl (zbp hd)=.bl c∧_
  simp only[zaY] at q
  refine zcQ (λe=>?_) (λe=>by have q1:=q _ (Same.refl _);rw[e] at q1;exact q1)
  rw[e,Bool.true_and] at q
  ac_rfl
  refine zaD hA (v:=.ref la) rfl ?_
  ac_rfl
  exact⟨la,gl,l,[7,8],rfl,hla,hL _,h9,by decide,sp9,λH1 s1=>q _ s1⟩
 | part hd l b=>
  obtain⟨a,xs,rfl,hA,hx⟩:=zdZ hR
  obtain⟨v1,r1,rfl,e1,hx⟩:=zaP hx
  obtain⟨v2,r2,rfl,e2,hx⟩:=zaP hx
  obtain⟨v3,r3,rfl,e3,hx⟩:=zaP hx
  obtain⟨v4,r4,rfl,e4,hx⟩:=zaP hx
  cases zc7 hx;cases zeG e1;cases zcM e2;cases zcM e4
  obtain⟨la,rfl,hla⟩:=zcf.mp e3
  ac_rfl
  refine zaD hA (v:=.str "part") rfl ?_
  ac_rfl
  rw[zov]
  ac_rfl
  rw[decide_eq_true rfl]
  ac_rfl
  refine zaD hA (v:=.int hd) rfl ?_
  ac_rfl
  refine zjy ?_
  show ∃ c,V.bl (zbp hd)=.bl c∧_
  simp only[zaY] at q
  refine zcQ (λe=>?_) (λe=>by have q1:=q _ (Same.refl _);rw[e] at q1;exact q1)
  rw[e,Bool.true_and] at q
  ac_rfl
  refine zaD hA (v:=.ref la) rfl ?_
  ac_rfl
  refine⟨la,gl,l,[7,8],rfl,hla,hL _,h9,by decide,sp9,λH1 s1=>?_⟩
  refine zcQ (λe=>?_) (λe=>by have q1:=q _ s1;rw[e] at q1;exact q1)
  rw[e,Bool.true_and] at q
  ac_rfl
  refine zaD (s1.tup hA) (v:=.int b) rfl ?_
  ac_rfl
  refine zcV ?_
  exact q _ s1
 | draw hd lo hi=>
  obtain⟨a,xs,rfl,hA,hx⟩:=zdZ hR
  obtain⟨v1,r1,rfl,e1,hx⟩:=zaP hx
  obtain⟨v2,r2,rfl,e2,hx⟩:=zaP hx
  obtain⟨v3,r3,rfl,e3,hx⟩:=zaP hx
  obtain⟨v4,r4,rfl,e4,hx⟩:=zaP hx
  cases zc7 hx;cases zeG e1;cases zcM e2;cases zcM e3;cases zcM e4
  ac_rfl
  refine zaD hA (v:=.str "draw") rfl ?_
  ac_rfl
  rw[zlL.1]
  ac_rfl
  rw[zlL.2]
  ac_rfl
  rw[decide_eq_true rfl]
  ac_rfl
  refine zaD hA (v:=.int hd) rfl ?_
  ac_rfl
  refine zjy ?_
  show ∃ c,V.bl (zbp hd)=.bl c∧_
  simp only[zaY] at q
  refine zcQ (λe=>?_) (λe=>by have q1:=q _ (Same.refl _);rw[e] at q1;exact q1)
  rw[e,Bool.true_and] at q
  ac_rfl
  refine zaD hA (v:=.int lo) rfl ?_
  ac_rfl
  refine zaD hA (v:=.int hi) rfl ?_
  ac_rfl
  exact⟨lo,hi,rfl,q _ (Same.refl _)⟩
 | turn l p=>
  obtain⟨a,xs,rfl,hA,hx⟩:=zdZ hR
  obtain⟨v1,r1,rfl,e1,hx⟩:=zaP hx
  obtain⟨v2,r2,rfl,e2,hx⟩:=zaP hx
  obtain⟨v3,r3,rfl,e3,hx⟩:=zaP hx
  cases zc7 hx;cases zeG e1;cases zcM e3
  obtain⟨la,rfl,hla⟩:=zcf.mp e2
  ac_rfl
  refine zaD hA (v:=.str "turn") rfl ?_
  ac_rfl
  rw[zi0.1]
  ac_rfl
  rw[zi0.2.1]
  ac_rfl
  rw[zi0.2.2]
  ac_rfl
  rw[decide_eq_true rfl]
  ac_rfl
  refine zaD hA (v:=.ref la) rfl ?_
  ac_rfl
  simp only[zaY] at q
  refine⟨la,gl,l,[7,8],rfl,hla,hL _,h9,by decide,sp9,λH1 s1=>?_⟩
  refine zcQ (λe=>?_) (λe=>by have q1:=q _ s1;rw[e] at q1;exact q1)
  rw[e,Bool.true_and] at q
  ac_rfl
  refine zaD (s1.tup hA) (v:=.int p) rfl ?_
  ac_rfl
  refine zcV ?_
  exact q _ s1
 | hold l=>
  obtain⟨a,xs,rfl,hA,hx⟩:=zdZ hR
  obtain⟨v1,r1,rfl,e1,hx⟩:=zaP hx
  obtain⟨v2,r2,rfl,e2,hx⟩:=zaP hx
  cases zc7 hx;cases zeG e1
  obtain⟨la,rfl,hla⟩:=zcf.mp e2
  ac_rfl
  refine zaD hA (v:=.str "hold") rfl ?_
  ac_rfl
  rw[zgZ.1]
  ac_rfl
  rw[zgZ.2.1]
  ac_rfl
  rw[zgZ.2.2.1]
  ac_rfl
  rw[zgZ.2.2.2]
  ac_rfl
  rw[decide_eq_true rfl]
  ac_rfl
  refine zaD hA (v:=.ref la) rfl ?_
  ac_rfl
  exact⟨la,gl,l,[7,8],rfl,hla,hL _,h9,by decide,sp9,λH1 s1=>q _ s1⟩
 | call m g0 g1 t0 t1=>
  obtain⟨a,xs,rfl,hA,hx⟩:=zdZ hR
  obtain⟨v1,r1,rfl,e1,hx⟩:=zaP hx
  obtain⟨v2,r2,rfl,e2,hx⟩:=zaP hx
  obtain⟨v3,r3,rfl,e3,hx⟩:=zaP hx
  obtain⟨v4,r4,rfl,e4,hx⟩:=zaP hx
  cases zc7 hx;cases zeG e1;cases zcM e2
  obtain⟨ga,rfl,hga⟩:=zjz e3
  obtain⟨ta,rfl,hta⟩:=zjz e4
  ac_rfl
  refine zaD hA (v:=.str "call") rfl ?_
  ac_rfl
  rw[zfT.1]
  ac_rfl
  rw[zfT.2.1]
  ac_rfl
  rw[zfT.2.2.1]
  ac_rfl
  rw[zfT.2.2.2.1]
  ac_rfl
  rw[zfT.2.2.2.2]
  ac_rfl
  refine zaD hA (v:=.int m) rfl ?_
  ac_rfl
  refine zaD hA (v:=.ref ga) rfl ?_
  ac_rfl
  refine zaD hA (v:=.ref ta) rfl ?_
  ac_rfl
  exact⟨m,ga,ta,g0,g1,t0,t1,rfl,hga,hta,λH1 s1=>q _ s1⟩
inductive Q50 (K:Fg) (vs:List V) (H:Hp) (Q:VK) (E:XK):Prop
 | mk (a:Addr) (ds:List Dd):vs=[.ref a]→Rep K H (.lst (ds.map toD)) (.ref a)→ds.length≤1000→(∀ d∈ds,zdp d)→(∀ H',Same H H'→Q (.bl (zdr ds)) H')→Q50 K vs H Q E
theorem zgc {f:Addr}{fd:FuncData}(B:Bl K mg) {C:Nat→Addr}(Z:Zt K mg C) (Q6d:Fn P w K mg base "between" ["low","number","high"] 1 (Q6c K)) (Q5d:Fn P w K mg base "deed_right" ["deed","last_place"] 5 (Q5c K)) (F:Fun K "deeds_right" "deeds_right" Q4f f fd) (m:mg "deeds_right"=some (.ref f)):Fn P w K mg base "deeds_right" ["deeds"] 6 (Q50 K):=by
 refine Fn.of (k:=5) F zdR m (λ_ _ _ _ _ _ us hl=>match us,hl with | [_],_=>rfl) (λvs H Q E h=>?_) (λcdv A outer s H vs Q E hr h=>?_)
 ·first
  | (obtain⟨_,_,rfl,_⟩:=h;rfl)
 obtain⟨a,ds,rfl,hA,l1000,h9,q⟩:=h
 refine⟨_,(zae (zaA (i:=1) zdR.nd rfl (Or.inr rfl) (zaH (zdY K) rfl B.len L2.boot_len (zac (pv 0) zab)))
   (zag (zar (zbu (zat Q6d hr rfl (zaf zaa (zac (pv 1) (zac (zdm rfl B.c_MOST_DEEDS) zab)))) (zbV (zaH (zjX K rfl) rfl B.all L2.zdC (zd0 (zbE rfl (COk.m (sc0:=zai Q4f) (N:=["deeds","count"]) (N':=["deeds","count","deed"]) (ms:=[false,false,true])) (zbO K (pv 0)) (λ_ _ _ _ _=>(zaK (i:=2) (ndS (N:=["deeds","count","deed"])) rfl (Or.inl rfl))) (λ_ _ _ _ _=>za0) (λ_ _ _ _ _=>(zat Q5d hr rfl (zac (pv 2) (zac (pv 1) zab))))) zab))))))),?_⟩
 unfold Rep at hA
 obtain⟨a',xs,e,hA,hx⟩:=hA
 cases e
 have lx:=hx.length
 rw[zlm] at lx
 unfold zdr btw at q
 ac_rfl
 refine zdX (.inl hA) ?_
 rw[←lx]
 ac_rfl
 refine zcV ?_
 refine zcQ (λe=>?_) (λe=>by have q1:=q _ (Same.refl _);rw[e] at q1;exact q1)
 rw[e,Bool.true_and] at q
 ac_rfl
 refine⟨a,rfl,⟨_,hA⟩,?_⟩
 refine za8 (zbh hA) ((ds.map (zaY (ds.length:Int))).map D.bl) (by simp;omega) (zaC (by omega)) (λk x d H1 R hk hd s1 hx' hR=>?_) (λv H1 s1 n1=>?_)
 ·obtain⟨d2,hd2,hrx⟩:=Reps.get' hx hx'
  rw[zgm] at hd2
  obtain⟨l,hl,rfl⟩:=zme.mp hd2
  rw[zgm,zgm,hl] at hd
  cases hd
  ac_rfl
  refine⟨_,_,l,rfl,Rep.same s1 _ hrx,h9 l (zmg hl),λH2 s2=>?_⟩
  exact hR _ _ s2 New.bl
 obtain⟨la,rfl,la0,la1⟩:=New.bls n1
 ac_rfl
 refine zjW (SqL.of la1) ?_
 exact q _ s1
inductive Q53 (K:Fg) (C:Nat→Addr) (vs:List V) (H:Hp) (Q:VK) (E:XK):Prop
 | mk (p:Addr) (needs leaves:List (List Int)) (ds:List Dd) (notes:List (List (List Int))):vs=[.ref p]→zbG K (C 7) H p needs leaves (ds.map toD) notes→notes.length≤1000→(∀ ls∈notes,ls.length≤1000∧∀ l∈ls,l.length=9)→(∀ H',Same H H'→Q (.bl (zds ds notes)) H')→Q53 K C vs H Q E
theorem zgd {f:Addr}{fd:FuncData}(B:Bl K mg) {C:Nat→Addr}(Z:Zt K mg C) (Q57:Fn P w K mg base "lines_right" ["lines","nought_spots"] 4 (Q56 K)) (F:Fun K "notes_right" "notes_right" Q52 f fd) (m:mg "notes_right"=some (.ref f)):Fn P w K mg base "notes_right" ["craft"] 5 (Q53 K C):=by
 refine Fn.of (k:=4) F zdS m (λ_ _ _ _ _ _ us hl=>match us,hl with | [_],_=>rfl) (λvs H Q E h=>?_) (λcdv A outer s H vs Q E hr h=>?_)
 ·first
  | (obtain⟨_,_,_,_,_,rfl,_⟩:=h;rfl)
 obtain⟨p,needs,leaves,ds,notes,rfl,hC,l1000,h9,q⟩:=h
 obtain⟨gl,g_LEFT_SPOTS,hL⟩:=B.t_LEFT_SPOTS
 have sp9:∀ s∈([7,8]:List Nat),s<9:=by decide
 refine⟨_,(zae (zaA (i:=1) zdS.nd rfl (Or.inl rfl) (zbD (k_eq K hr) (zaH (zdY K) rfl B.len L2.boot_len (zbd (zaI K (pv 0) rfl) zab)) (zaH (zdY K) rfl B.len L2.boot_len (zbd (zaI K (pv 0) rfl) zab)) (zay _)))
   (zag (zar (zbu (pv 1) (zbV (zaH (zjX K rfl) rfl B.all L2.zdC (zd0 (zbE rfl (COk.m (sc0:=zai Q52) (N:=["craft","as_many"]) (N':=["craft","as_many","lines"]) (ms:=[false,false,true])) (zbO K (zaI K (pv 0) rfl)) (λ_ _ _ _ _=>(zaK (i:=2) (ndS (N:=["craft","as_many","lines"])) rfl (Or.inl rfl))) (λ_ _ _ _ _=>za0) (λ_ _ _ _ _=>(zat Q57 hr rfl (zac (pv 2) (zac (zcI rfl g_LEFT_SPOTS) zab))))) zab))))))),?_⟩
 obtain⟨dx,w1,w2,w3,w4,hp,r1,r2,r3,r4⟩:=hC
 unfold Rep at r3 r4
 obtain⟨b3,xs3,rfl,q3,z3⟩:=r3
 obtain⟨b4,xs4,rfl,q4,z4⟩:=r4
 have m3:=z3.length
 have m4:=z4.length
 rw[zlm] at m3 m4
 unfold zds at q
 ac_rfl
 refine⟨p,(C 7),dx,_,_,rfl,hp,Z.c_Craft,Z.n_Craft_notes,zdE _ _ _ _,?_⟩
 ac_rfl
 refine zdX (.inl q4) ?_
 ac_rfl
 refine⟨p,(C 7),dx,_,_,rfl,hp,Z.c_Craft,Z.n_Craft_deeds,zcg _ _ _ _,?_⟩
 ac_rfl
 refine zdX (.inl q3) ?_
 rw[←m3,←m4]
 ac_rfl
 refine zeS (λe=>?_) (λe=>by have q1:=q _ (Same.refl _);rw[e] at q1;exact q1)
 rw[e,Bool.true_and] at q
 ac_rfl
 refine⟨p,(C 7),dx,_,_,rfl,hp,Z.c_Craft,Z.n_Craft_notes,zdE _ _ _ _,?_⟩
 refine⟨b4,rfl,⟨_,q4⟩,?_⟩
 refine za8 (zbh q4) ((notes.map (zco [7,8])).map D.bl) (by simp;omega) (zaC (by omega)) (λk x d H1 R hk hd s1 hx' hR=>?_) (λv H1 s1 n1=>?_)
 ·obtain⟨d2,hd2,hrx⟩:=Reps.get' z4 hx'
  rw[zgm] at hd2
  obtain⟨l,hl,rfl⟩:=zme.mp hd2
  rw[zgm,zgm,hl] at hd
  cases hd
  have hr':=Rep.same s1 _ hrx
  obtain⟨xa,rfl⟩:∃ b,x=.ref b:=by unfold zaG Rep at hrx;obtain⟨a,_,e,_⟩:=hrx;exact⟨a,e⟩
  have h9':=h9 l (zmg hl)
  ac_rfl
  refine⟨xa,gl,l,[7,8],rfl,hr',hL _,h9'.1,h9'.2,by decide,sp9,λH2 s2=>?_⟩
  exact hR _ _ s2 New.bl
 obtain⟨la,rfl,la0,la1⟩:=New.bls n1
 ac_rfl
 refine zjW (SqL.of la1) ?_
 exact q _ s1
inductive Q4b (K:Fg) (C:Nat→Addr) (vs:List V) (H:Hp) (Q:VK) (E:XK):Prop
 | mk (p:Addr) (needs leaves:List (List Int)) (ds:List Dd) (notes:List (List (List Int))):vs=[.ref p]→zbG K (C 7) H p needs leaves (ds.map toD) notes→needs.length≤1000→leaves.length≤1000→ds.length≤1000→notes.length≤1000→(∀ l∈needs,l.length=9)→(∀ l∈leaves,l.length=9)→(∀ d∈ds,zdp d)→(∀ ls∈notes,ls.length≤1000∧∀ l∈ls,l.length=9)→(∀ H',Same H H'→Q (.bl (zbW needs leaves ds notes)) H')→Q4b K C vs H Q E
theorem zmT {f:Addr}{fd:FuncData}(B:Bl K mg) {C:Nat→Addr}(Z:Zt K mg C) (Q4e:Fn P w K mg base "oath_right" ["craft"] 5 (Q4d K C)) (Q51:Fn P w K mg base "deeds_right" ["deeds"] 6 (Q50 K)) (Q54:Fn P w K mg base "notes_right" ["craft"] 5 (Q53 K C)) (F:Fun K "right" "right" Q4a f fd) (m:mg "right"=some (.ref f)):Fn P w K mg base "right" ["craft"] 7 (Q4b K C):=by
 refine Fn.of (k:=6) F zmL m (λ_ _ _ _ _ _ us hl=>match us,hl with | [_],_=>rfl) (λvs H Q E h=>?_) (λcdv A outer s H vs Q E hr h=>?_)
 ·first
  | (obtain⟨_,_,_,_,_,rfl,_⟩:=h;rfl)
 obtain⟨p,needs,leaves,ds,notes,rfl,hC,ln,ll,ld,lo,h9n,h9l,h9d,h9o,q⟩:=h
 refine⟨_,(zag (zar (zbu (zat Q4e hr rfl (zac (pv 0) zab)) (zbu (zat Q51 hr rfl (zbd (zaI K (pv 0) rfl) zab)) (zbV (zat Q54 hr rfl (zac (pv 0) zab))))))),?_⟩
 unfold zbW at q
 ac_rfl
 refine⟨p,needs,leaves,_,notes,rfl,hC,ln,ll,h9n,h9l,λH1 s1=>?_⟩
 refine zcQ (λe=>?_) (λe=>by have q1:=q _ s1;rw[e] at q1;exact q1)
 rw[e,Bool.true_and] at q
 ac_rfl
 obtain⟨dx,w1,w2,w3,w4,hp,r1,r2,r3,r4⟩:=zbG.same s1 hC
 obtain⟨b3,rfl⟩:∃ b,w3=.ref b:=by unfold Rep at r3;obtain⟨a,_,e,_⟩:=r3;exact⟨a,e⟩
 refine⟨p,(C 7),dx,_,_,rfl,hp,Z.c_Craft,Z.n_Craft_deeds,zcg _ _ _ _,?_⟩
 ac_rfl
 refine⟨b3,ds,rfl,r3,ld,h9d,λH2 s2=>?_⟩
 have s3:=s1.trans s2
 refine zcQ (λe=>?_) (λe=>by have q1:=q _ s3;rw[e] at q1;exact q1)
 rw[e,Bool.true_and] at q
 ac_rfl
 exact⟨p,needs,leaves,ds,notes,rfl,zbG.same s3 hC,lo,h9o,λH4 s4=>q _ (s3.trans s4)⟩
inductive Q6f (K:Fg) (C:Nat→Addr) (vs:List V) (H:Hp) (Q:VK) (E:XK):Prop
 | mk (ha dx:Addr):vs=[.ref ha]→H ha=some (.ins (C 8) dx [])→(∀ la va H',H la=none→H va=none→la≠va→OffA [ha] H H'→H' ha=some (.ins (C 8) dx (hfl la va))→H' la=some (.dK [])→H' va=some (.dK [])→Q .non H')→Q6f K C vs H Q E
theorem zow {f:Addr}{fd:FuncData}(B:Bl K mg) {C:Nat→Addr}(Z:Zt K mg C)  (F:Fun K "__init__" "Hall.__init__" Q6e f fd) (M:Mk K (C 8) f):Mkr P w K mg base "Hall" (C 8) ["self"] 1 (Q6f K C):=by
 refine⟨f,fd,M,F.ok (k:=0) zeW (λvs H Q E h=>?_) (λcdv A outer s H vs Q E hr h=>?_),F.binds λ_ _ _ _ _ _ us hl=>match us,hl with | [_],_=>rfl,Z.m_Hall⟩
 ·first
  | (obtain⟨_,_,rfl,_⟩:=h;rfl)
 obtain⟨ha,dx,rfl,hh,q⟩:=h
 refine⟨_,(zae (zbk (pv 0) zgH rfl)
   (zag (zbk (pv 0) zgH rfl))),?_⟩
 walk_at "q"
 nofun
 intro la la0
 have e1:(upd H la (.dK [])) ha=some (.ins (C 8) dx []):=by rw[zaj (zam hh la0)];exact hh
 nofun
 refine⟨ha,(C 8),dx,[],rfl,e1,Z.c_Hall,Z.n_Hall_laid,by show 0<1000;decide,?_⟩
 nofun
 intro va va0
 have nha:va≠ha:=λz=>by rw[z,zad] at va0;cases va0
 have nla:va≠la:=λz=>by rw[z,zaj (zam hh la0).symm,zad] at va0;cases va0
 have v0:H va=none:=by rw[zaj nha,zaj nla] at va0;exact va0
 nofun
 refine⟨ha,(C 8),dx,_,rfl,by rw[zaj nha.symm,zad],Z.c_Hall,Z.n_Hall_vouched,Nat.lt_of_lt_of_le (zaU (n:=1) (by decide)) (by decide),?_⟩
 have nl:la≠ha:=(zam hh la0).symm
 refine q la va _ la0 v0 nla.symm (λb o n e=>?_) zad ?_ ?_
 ·have n1:b≠ha:=λz=>n (by simp[z])
  rw[zaj n1,zaj (zam e v0),zaj n1,zaj (zam e la0)]
  exact e
 ·rw[zaj nl,zaj nla.symm,zaj nl,zad]
 ·rw[zaj nha,zad]
inductive Q7c (K:Fg) (C:Nat→Addr) (vs:List V) (H:Hp) (Q:VK) (E:XK):Prop
 | mk (ha la va:Addr) (n:Int) (ks:List Int) (cr:Int→Cr) (ws:List Int) (fp:List Addr):vs=[.ref ha,.int n]→HAt (C 8) (C 7) H ha la va ks cr ws fp→(∀ H' ws',OffA [va] H H'→HAt (C 8) (C 7) H' ha la va ks cr ws' fp→(∀ m,m∈ws'↔m∈ws∧m≠n)→Q .non H')→Q7c K C vs H Q E
theorem zfU {f:Addr}{fd:FuncData}(B:Bl K mg) {C:Nat→Addr}(Z:Zt K mg C)  (F:Fun K "release" "Hall.release" Q7b f fd) (M:Meth K (C 8) "release" f):Mth CX0 P w K mg base (C 8) "release" ["self","number"] 1 (Q7c K C):=by
 refine⟨f,fd,M,F.ok (k:=0) zfM (λvs H Q E h=>?_) (λcdv A outer s H vs Q E hr h=>?_),F.binds λ_ _ _ _ _ _ us hl=>match us,hl with | [_,_],_=>rfl⟩
 ·first
  | (obtain⟨_,_,_,_,_,_,_,_,rfl,_⟩:=h;rfl)
 obtain⟨ha,la,va,n,ks,cr,ws,fp,rfl,hA,q⟩:=h
 refine⟨_,(zag (zaW (zl8 (zaI K (pv 0) rfl) (pv 1) zcN ⟨rfl,rfl,rfl,rfl⟩))),?_⟩
 obtain⟨dx,hh⟩:=hA.ins
 obtain⟨kvs,hva,hk⟩:=hA.vou
 nofun
 refine⟨ha,(C 8),dx,_,_,rfl,hh,Z.c_Hall,Z.n_Hall_vouched,zgr _ _,?_⟩
 refine⟨va,rfl,.inl ⟨_,.inl hva⟩,?_⟩
 nofun
 refine⟨kvs,.inl n,hva,rfl,λv hv=>?_,λhv=>?_⟩
 ·nofun
  refine q _ _ (zbn (by simp)) (hA.putV hk.drop λm hm=>hA.sub m (List.mem_filter.mp hm).1) λm=>?_
  rw[List.mem_filter,decide_eq_true_eq]
 ·nofun
  refine q _ ws (Same.refl _).offA hA λm=>⟨λhm=>⟨hm,λz=>?_⟩,λhm=>hm.1⟩
  subst z
  obtain⟨v,e,_⟩:=hk.2.2 m hm
  rw[e] at hv;cases hv
inductive Q79 (K:Fg) (C:Nat→Addr) (vs:List V) (H:Hp) (Q:VK) (E:XK):Prop
 | mk (ha la va:Addr) (n:Int) (ks:List Int) (cr:Int→Cr) (ws:List Int) (fp:List Addr):vs=[.ref ha,.int n]→HAt (C 8) (C 7) H ha la va ks cr ws fp→(∀ v H',Same H H'→New H H' (nums (zd3 ks cr n)) v→Q v H')→Q79 K C vs H Q E
theorem zeH {f:Addr}{fd:FuncData}(B:Bl K mg) {C:Nat→Addr}(Z:Zt K mg C) (Q49:Fn P w K mg base "called_by" ["craft"] 1 (Q48 K C)) (F:Fun K "called_at" "Hall.called_at" Q78 f fd) (M:Meth K (C 8) "called_at" f):Mth CX0 P w K mg base (C 8) "called_at" ["self","number"] 2 (Q79 K C):=by
 refine⟨f,fd,M,F.ok (k:=1) zeC (λvs H Q E h=>?_) (λcdv A outer s H vs Q E hr h=>?_),F.binds λ_ _ _ _ _ _ us hl=>match us,hl with | [_,_],_=>rfl⟩
 ·first
  | (obtain⟨_,_,_,_,_,_,_,_,rfl,_⟩:=h;rfl)
 obtain⟨ha,la,va,n,ks,cr,ws,fp,rfl,hA,q⟩:=h
 refine⟨_,(zae (zaR (zg5 (zm6 (hr_u hr) (pv 1) (zaI K (pv 0) rfl))) (zag (zar (zat Q49 hr rfl (zaw (zcH (hr_u hr) (zaI K (pv 0) rfl) (pv 1) (λ_ _=>rfl)) zab)))) zax)
   (zag (zar (za3 zab)))),?_⟩
 obtain⟨dx,hh⟩:=hA.ins
 obtain⟨kvs,hla,hk⟩:=hA.laid
 unfold zd3 at q
 walk_at "q"
 nofun
 refine⟨ha,(C 8),dx,_,_,rfl,hh,Z.c_Hall,Z.n_Hall_laid,zd2 _ _,?_⟩
 refine⟨la,_,rfl,DGet.k (k:=.inl n) hla,?_⟩
 by_cases hm:n∈ks
 ·obtain⟨v,hv,p,f,rfl,hC,hf⟩:=hk.2.2 n hm
  rw[if_pos hm] at q
  have rt:=hA.rt n hm
  obtain⟨_,dx',w1,w2,b3,w4,dvs,hp,hb3,hD⟩:=hC.t (K:=K) rt.nine.d9
  rw[hv]
  nofun
  refine zeS (λ_=>?_) (λz=>by cases z)
  nofun
  refine⟨ha,(C 8),dx,_,_,rfl,hh,Z.c_Hall,Z.n_Hall_laid,zd2 _ _,?_⟩
  nofun
  refine⟨la,.ref p,rfl,by rw[←hv];exact DGet.k (k:=.inl n) hla,?_⟩
  nofun
  exact⟨p,dx',b3,w1,w2,w4,dvs,(cr n).deeds,rfl,hp,hb3,hD,by have:=rt.nine.d;omega,q⟩
 ·rw[if_neg hm] at q
  rw[hk.no hm]
  nofun
  refine zeS (λz=>by cases z) (λ_=>?_)
  nofun
  refine⟨(by walk_at "sm"),λp hp=>?_⟩
  exact q _ _ (zah hp _) (New.iif.mpr ⟨p,rfl,hp,zad⟩)
inductive Q7f (K:Fg) (C:Nat→Addr) (vs:List V) (H:Hp) (Q:VK) (E:XK):Prop
 | mk (ha la va:Addr) (n:Int) (ks:List Int) (cr:Int→Cr) (ws:List Int) (fp:List Addr):vs=[.ref ha,.int n]→HAt (C 8) (C 7) H ha la va ks cr ws fp→(∀ H' ws',OffA [va] H H'→HAt (C 8) (C 7) H' ha la va ks cr ws' fp→(∀ m,m∈ws'↔m∈ws∧n∉zd3 ks cr m)→Q .non H')→Q7f K C vs H Q E
theorem zc8 {f:Addr}{fd:FuncData}(B:Bl K mg) {C:Nat→Addr}(Z:Zt K mg C) (Q7a:Mth CX0 P w K mg base (C 8) "called_at" ["self","number"] 2 (Q79 K C)) (Q7d:Mth CX0 P w K mg base (C 8) "release" ["self","number"] 1 (Q7c K C)) (F:Fun K "release_callers" "Hall.release_callers" Q7e f fd) (M:Meth K (C 8) "release_callers" f):Mth CX0 P w K mg base (C 8) "release_callers" ["self","number"] 3 (Q7f K C):=by
 refine⟨f,fd,M,F.ok (k:=2) zbS (λvs H Q E h=>?_) (λcdv A outer s H vs Q E hr h=>?_),F.binds λ_ _ _ _ _ _ us hl=>match us,hl with | [_,_],_=>rfl⟩
 ·first
  | (obtain⟨_,_,_,_,_,_,_,_,rfl,_⟩:=h;rfl)
 obtain⟨ha,la,va,n,ks,cr,ws,fp,rfl,hA,q⟩:=h
 refine⟨_,(zag (zdM PassesOwn.never rfl (zbO K (zcl (zjZ rfl) rfl B.list L2.zb4 (zbd (zaI K (pv 0) rfl) zab))) (zaK (i:=2) zbS.nd rfl (Or.inl rfl)) (zag (zaR (zau (k_in K) (pv 1) (zbb Q7a Z.c_Hall hr za5 (pv 0) (zac (pv 2) zab)) rfl) (zag (zaW (zbb Q7d Z.c_Hall hr za5 (pv 0) (zac (pv 2) zab)))) zax)))),?_⟩
 obtain⟨dx,hh⟩:=hA.ins
 obtain⟨kvs,hva,hk⟩:=hA.vou
 have nd:=hk.2.1
 nofun
 refine⟨ha,(C 8),dx,_,_,rfl,hh,Z.c_Hall,Z.n_Hall_vouched,zgr _ _,?_⟩
 nofun
 refine zoe hva hk.1 λl hl=>?_
 have s0:=zah hl (.lst (ws.map V.int))
 have nlv:l≠va:=(zam hva hl).symm
 refine⟨l,rfl,⟨_,SqL.of zad⟩,?_⟩
 refine zld (xs:=ws.map V.int) (λi σ H'=>∃ x ws',A4 (σ=[some (.ref ha),some (.int n),x]) (OffA [va] (upd H l (.lst (ws.map V.int))) H') (HAt (C 8) (C 7) H' ha la va ks cr ws' fp) (∀ m,m∈ws'↔m∈ws∧(m∈ws.take i→n∉zd3 ks cr m)))
  ⟨none,ws,rfl,(Same.refl _).offA,hA.same s0,λm=>by simp⟩ (λi σ H' _ ⟨_,_,_,e,_,_⟩=>SqL.of (e _ _ (by simp[nlv]) zad)) ?_ ?_
 ·rintro i v σ H2 hv ⟨x,ws',rfl,o2,hA2,hm2⟩
  rw[zgm] at hv
  obtain⟨m0,hm0,rfl⟩:=zme.mp hv
  obtain⟨dx2,hh2⟩:=hA2.ins
  nofun
  refine⟨ha,dx2,_,rfl,hh2,ziF (by decide +kernel) (by decide +kernel),?_⟩
  nofun
  refine⟨ha,la,va,m0,ks,cr,ws',fp,rfl,hA2,λv H3 s3 n3=>?_⟩
  obtain⟨ca,rfl,ca0,ca1⟩:=New.iif.mp n3
  refine i_inI (SqL.of ca1) ?_
  have tk:∀ m,m∈ws.take (i+1)↔m∈ws.take i∨m=m0:=λm=>by
   rw[List.take_add_one,hm0];simp
  by_cases hc:n∈zd3 ks cr m0
  ·rw[decide_eq_true hc]
   nofun
   refine⟨ha,dx2,_,rfl,s3 _ _ hh2,ziF (by decide +kernel) (by decide +kernel),?_⟩
   nofun
   refine⟨ha,la,va,m0,ks,cr,ws',fp,rfl,hA2.same s3,λH4 ws4 o4 hA4 hm4=>?_⟩
   nofun
   refine⟨_,ws4,rfl,o2.trans (s3.offA.trans o4),hA4,λm=>?_⟩
   rw[hm4,hm2,tk]
   constructor
   ·rintro⟨⟨h1,h2⟩,h3⟩
    exact⟨h1,λz=>by rcases z with z | z;exact h2 z;exact absurd z h3⟩
   ·rintro⟨h1,h2⟩
    exact⟨⟨h1,λz=>h2 (.inl z)⟩,λz=>h2 (.inr z) (by rw[z];exact hc)⟩
  ·rw[decide_eq_false hc]
   nofun
   refine⟨_,ws',rfl,o2.trans s3.offA,hA2.same s3,λm=>?_⟩
   rw[hm2,tk]
   constructor
   ·rintro⟨h1,h2⟩
    exact⟨h1,λz=>by rcases z with z | z;exact h2 z;rw[z];exact hc⟩
   ·rintro⟨h1,h2⟩
    exact⟨h1,λz=>h2 (.inl z)⟩
 ·rintro σ H2 ⟨x,ws',rfl,o2,hA2,hm2⟩
  nofun
  refine q _ ws' (s0.offA.trans o2) hA2 λm=>?_
  rw[hm2,zlm,List.take_of_length_le (Nat.le_refl _)]
  exact⟨λh=>⟨h.1,h.2 h.1⟩,λh=>⟨h.1,λ_=>h.2⟩⟩
inductive Q82 (K:Fg) (C:Nat→Addr) (vs:List V) (H:Hp) (Q:VK) (E:XK):Prop
 | mk (p q:Addr) (n1 l1 n2 l2:List (List Int)) (d1 d2:List D) (o1 o2:List (List (List Int))):vs=[.ref p,.ref q]→zbG K (C 7) H p n1 l1 d1 o1→zbG K (C 7) H q n2 l2 d2 o2→Q (.bl (decide (n1=n2) && decide (l1=l2))) H→Q82 K C vs H Q E
theorem zh7 {f:Addr}{fd:FuncData}(B:Bl K mg) {C:Nat→Addr}(Z:Zt K mg C)  (F:Fun K "same_oath" "same_oath" Q81 f fd) (m:mg "same_oath"=some (.ref f)):Fn P w K mg base "same_oath" ["craft","other"] 1 (Q82 K C):=by
 refine Fn.of (k:=0) F zhX m (λ_ _ _ _ _ _ us hl=>match us,hl with | [_,_],_=>rfl) (λvs H Q E h=>?_) (λcdv A outer s H vs Q E hr h=>?_)
 ·first
  | (obtain⟨_,_,_,_,_,_,_,_,_,_,rfl,_⟩:=h;rfl)
 obtain⟨p,q,n1,l1,n2,l2,d1,d2,o1,o2,rfl,hP,hQ,k⟩:=h
 refine⟨_,(zag (zar (zbu (zbD (k_eq K hr) (zaI K (pv 0) rfl) (zaI K (pv 1) rfl) (zay _)) (zbV (zbD (k_eq K hr) (zaI K (pv 0) rfl) (zaI K (pv 1) rfl) (zay _)))))),?_⟩
 obtain⟨dx,w1,w2,w3,w4,hp,r1,r2,_,_⟩:=hP
 obtain⟨dy,u1,u2,u3,u4,hq,t1,t2,_,_⟩:=hQ
 obtain⟨a1,rfl⟩:∃ b,w1=.ref b:=by unfold zaG Rep at r1;obtain⟨a,_,e,_⟩:=r1;exact⟨a,e⟩
 obtain⟨a2,rfl⟩:∃ b,w2=.ref b:=by unfold zaG Rep at r2;obtain⟨a,_,e,_⟩:=r2;exact⟨a,e⟩
 obtain⟨b1,rfl⟩:∃ b,u1=.ref b:=by unfold zaG Rep at t1;obtain⟨a,_,e,_⟩:=t1;exact⟨a,e⟩
 obtain⟨b2,rfl⟩:∃ b,u2=.ref b:=by unfold zaG Rep at t2;obtain⟨a,_,e,_⟩:=t2;exact⟨a,e⟩
 nofun
 refine⟨p,(C 7),dx,_,_,rfl,hp,Z.c_Craft,Z.n_Craft_needs,zcA _ _ _ _,?_⟩
 nofun
 refine⟨q,(C 7),dy,_,_,rfl,hq,Z.c_Craft,Z.n_Craft_needs,zcA _ _ _ _,?_⟩
 refine znY r1 t1 (Nat.le_trans (zht _) (by decide)) ?_
 rw[zgs]
 refine zcQ (λe=>?_) (λe=>by rw[e,Bool.false_and] at k;exact k)
 rw[e,Bool.true_and] at k
 nofun
 refine⟨p,(C 7),dx,_,_,rfl,hp,Z.c_Craft,Z.n_Craft_leaves,zcp _ _ _ _,?_⟩
 nofun
 refine⟨q,(C 7),dy,_,_,rfl,hq,Z.c_Craft,Z.n_Craft_leaves,zcp _ _ _ _,?_⟩
 refine znY r2 t2 (Nat.le_trans (zht _) (by decide)) ?_
 rw[zgs]
 exact k
inductive Q71 (K:Fg) (C:Nat→Addr) (vs:List V) (H:Hp) (Q:VK) (E:XK):Prop
 | mk (ha la va p:Addr) (n:Int) (ks:List Int) (cr:Int→Cr) (ws:List Int) (fp:List Addr) (c:Cr):vs=[.ref ha,.int n,.ref p]→HAt (C 8) (C 7) H ha la va ks cr ws fp→zeO K (C 7) H p c.needs c.leaves c.deeds c.notes→c.Nine→n.natAbs<zb9→(n∈ks∨ks.length<60)→(c.right=false→∀ H',Same H H'→E (.ref (C 1)) none H')→(c.right=true→∀ H' ks' ws' fp',OffA [la,va] H H'→HAt (C 8) (C 7) H' ha la va ks' (setC cr n c) ws' fp'→(∀ m,m∈ks'↔m∈ks∨m=n)→(n∈ks→ks'=ks)→(n∉ks→ks'=ks++[n])→
  (∀ m,m∈ws'↔m∈ws∧m≠n∧(n∈ks→¬ ((cr n).needs=c.needs∧(cr n).leaves=c.leaves)→n∉zd3 ks cr m))→(∀ b∈fp',b∈fp∨H b=none)→Q .non H')→Q71 K C vs H Q E
theorem zi1 {f:Addr}{fd:FuncData}(B:Bl K mg) {C:Nat→Addr}(Z:Zt K mg C) (Q7d:Mth CX0 P w K mg base (C 8) "release" ["self","number"] 1 (Q7c K C)) (Q46:Fn P w K mg base "copied_craft" ["craft"] 4 (Q45 K C)) (G_right:Fn P w K mg base "right" ["craft"] 7 (Q4b K C)) (Q80:Mth CX0 P w K mg base (C 8) "release_callers" ["self","number"] 3 (Q7f K C)) (Q83:Fn P w K mg base "same_oath" ["craft","other"] 1 (Q82 K C)) (F:Fun K "lay" "Hall.lay" Q70 f fd) (M:Meth K (C 8) "lay" f):Mth (CX1 P w) P w K mg base (C 8) "lay" ["self","number","craft"] 8 (Q71 K C):=by
 refine⟨f,fd,M,F.okx (k:=7) ziT (λvs H Q E h=>?_) (λcdv A outer s H vs Q E hr h=>?_),F.binds λ_ _ _ _ _ _ us hl=>match us,hl with | [_,_,_],_=>rfl⟩
 ·first
  | (obtain⟨_,_,_,_,_,_,_,_,_,_,rfl,_⟩:=h;rfl)
 obtain⟨ha,la,va,p,n,ks,cr,ws,fp,c,rfl,hA,hT,nine,hn,hfew,qE,qQ⟩:=h
 refine⟨_,(zae (zaR (zc9 (zb2 (zat G_right hr rfl (zac (pv 2) zab)))) (zag (zgM Z.e_BadSheet rfl Z.m_BadSheet rfl ziw (zbN (pe_fs (pv 1) (by decide +kernel) (by decide +kernel)) zab))) zax)
   (zae (zaR (PW.pt (zks (zg5 (zm6 (hr_u hr) (pv 1) (zaI K (pv 0) rfl))) (zij (zc9 (zb2 (zat Q83 hr rfl (zaw (zcH (hr_u hr) (zaI K (pv 0) rfl) (pv 1) (λ_ _=>rfl)) (zac (pv 2) zab)))))))) (zag (zaW (zbb Q80 Z.c_Hall hr za5 (pv 0) (zac (pv 1) zab)))) zax)
   (zae (zaW (zbb Q7d Z.c_Hall hr za5 (pv 0) (zac (pv 1) zab)))
   (zag (zkU (hr_u hr) (zaI K (pv 0) rfl) (pv 1) (zat Q46 hr rfl (zac (pv 2) zab)) rfl))))),?_⟩
 have g1:=nine.n
 have g2:=nine.l
 have g3:=nine.d
 have g4:=nine.o
 walk_at "q"
 nofun
 refine⟨p,c.needs,c.leaves,c.deeds,c.notes,rfl,hT.1,by omega,by omega,by omega,by omega,nine.n9,nine.l9,nine.d9,λls hl=>⟨by have:=(nine.o9 ls hl).1;omega,(nine.o9 ls hl).2⟩,λH1 s1=>?_⟩
 cases hr':zbW c.needs c.leaves c.deeds c.notes with
 | false=>
  nofun
  refine⟨hn,λz=>?_⟩
  nofun
  exact⟨(by walk_at "sm"),qE hr' _ s1⟩
 | true=>
 have qQ:=qQ hr'
 clear qE
 have rtc:c.Rt:=⟨nine,hr'⟩
 nofun
 have hA1:=hA.same s1
 have hT1:=zeO.same s1 hT
 have oA:∀ {Hx:Hp},OffA [va] H1 Hx→zeO K (C 7) Hx p c.needs c.leaves c.deeds c.notes:=λ{Hx} o=>by
  obtain⟨kv,hv,_⟩:=hA1.vou
  have nd:=o.nod λa ha=>by rw[zms.mp ha];exact⟨_,hv⟩
  obtain⟨k0,dx,w1,w2,b3,w4,dvs,k1,k2,k3⟩:=hT1
  exact⟨k0.nod nd,dx,w1,w2,b3,w4,dvs,nd _ _ k1 (λ_ z=>by cases z),nd _ _ k2 (λ_ z=>by cases z),R2.mono k3 λ_ _ z=>z.sq nd.sq⟩
 -- who called it by another oath is let go
 with_reducible refine zee (λσ H'=>σ=[some (.ref ha),some (.int n),some (.ref p)]∧∃ ws',OffA [va] H1 H'∧HAt (C 8) (C 7) H' ha la va ks cr ws' fp∧∀ m,m∈ws'↔m∈ws∧(n∈ks→¬ ((cr n).needs=c.needs∧(cr n).leaves=c.leaves)→n∉zd3 ks cr m)) (λNX tail=>?_) ?_
 ·obtain⟨dx,hh⟩:=hA1.ins
  obtain⟨kvs,hla,hk⟩:=hA1.laid
  nofun
  refine⟨ha,(C 8),dx,_,_,rfl,hh,Z.c_Hall,Z.n_Hall_laid,zd2 _ _,?_⟩
  refine⟨la,_,rfl,DGet.k (k:=.inl n) hla,?_⟩
  by_cases hm:n∈ks
  ·obtain⟨v,hv,q,f,rfl,hC,hf⟩:=hk.2.2 n hm
   rw[hv]
   nofun
   refine zeS (λ_=>?_) (λz=>by cases z)
   nofun
   refine⟨ha,(C 8),dx,_,_,rfl,hh,Z.c_Hall,Z.n_Hall_laid,zd2 _ _,?_⟩
   nofun
   refine⟨la,.ref q,rfl,by rw[←hv];exact DGet.k (k:=.inl n) hla,?_⟩
   nofun
   refine⟨q,p,(cr n).needs,(cr n).leaves,c.needs,c.leaves,_,_,_,_,rfl,hC.at,hT1.1,?_⟩
   cases hs:(decide ((cr n).needs=c.needs) && decide ((cr n).leaves=c.leaves)) with
   | true=>
    nofun
    rw[Bool.and_eq_true,decide_eq_true_eq,decide_eq_true_eq] at hs
    exact tail _ _ ⟨rfl,ws,(Same.refl _).offA,hA1,λm=>⟨λz=>⟨z,λ_ w=>absurd hs w⟩,λz=>z.1⟩⟩
   | false=>
    have hs':¬ ((cr n).needs=c.needs∧(cr n).leaves=c.leaves):=λz=>by
     rw[decide_eq_true z.1,decide_eq_true z.2] at hs;cases hs
    nofun
    refine⟨ha,dx,_,rfl,hh,ziF (by decide +kernel) (by decide +kernel),?_⟩
    nofun
    refine⟨ha,la,va,n,ks,cr,ws,fp,rfl,hA1,λH2 ws2 o2 hA2 hm2=>?_⟩
    nofun
    refine tail _ _ ⟨rfl,ws2,o2,hA2,λm=>?_⟩
    rw[hm2]
    exact⟨λz=>⟨z.1,λ_ _=>z.2⟩,λz=>⟨z.1,z.2 hm hs'⟩⟩
  ·rw[hk.no hm]
   nofun
   refine zeS (λz=>by cases z) (λ_=>?_)
   nofun
   exact tail _ _ ⟨rfl,ws,(Same.refl _).offA,hA1,λm=>⟨λz=>⟨z,λw=>absurd w hm⟩,λz=>z.1⟩⟩
 rintro σ H2 ⟨rfl,ws2,o2,hA2,hm2⟩
 obtain⟨dx2,hh2⟩:=hA2.ins
 walk_at "q"
 nofun
 refine⟨ha,dx2,_,rfl,hh2,ziF (by decide +kernel) (by decide +kernel),?_⟩
 nofun
 refine⟨ha,la,va,n,ks,cr,ws2,fp,rfl,hA2,λH3 ws3 o3 hA3 hm3=>?_⟩
 have o13:=o2.trans o3
 nofun
 refine⟨p,c,rfl,oA o13,nine,λq f H4 s4 hC hf fn=>?_⟩
 have hA4:=hA3.same s4
 obtain⟨dx4,hh4⟩:=hA4.ins
 obtain⟨kvs,hla,hk⟩:=hA4.laid
 nofun
 refine⟨ha,(C 8),dx4,_,_,rfl,hh4,Z.c_Hall,Z.n_Hall_laid,zd2 _ _,?_⟩
 nofun
 have hkl:=hk.len
 have h60:=hA.few
 refine⟨la,_,rfl,DPut.k (k:=.inl n) hla (zb3 (by omega)),?_⟩
 have nd5:NoD H4 (upd H4 la (.dK (putK kvs (.inl n) (.ref q)))):=zgN hla
 obtain⟨kv,hva,hkv⟩:=hA4.vou
 have put:=hk.put' (m:=n) (v:=.ref q) (P':=CrIn (C 7) (upd H4 la (.dK (putK kvs (.inl n) (.ref q)))) (setC cr n c) (f++fp)) ⟨q,f,rfl,by unfold setC;rw[if_pos rfl];exact hC.nod nd5,λb hb=>List.mem_append_left _ hb⟩ (λk v ne ⟨p',f',e1,e2,e3⟩=>⟨p',f',e1,by unfold setC;rw[if_neg ne];exact e2.nod nd5,λb hb=>List.mem_append_right _ (e3 b hb)⟩)
 have kss:∀ m,m∈(if n∈ks then ks else ks++[n])↔m∈ks∨m=n:=λm=>by
  by_cases z:n∈ks
  ·rw[if_pos z]
   exact⟨.inl,λw=>by rcases w with w | w;exact w;rw[w];exact z⟩
  ·rw[if_neg z];simp
 refine qQ _ (if n∈ks then ks else ks++[n]) ws3 (f++fp) ?_ ⟨?_,⟨_,zad,put⟩,⟨kv,by rw[zaj hA4.ne.symm];exact hva,hkv⟩,hA4.ne,λm hm=>?_,?_,λm hm=>?_,λb hb=>?_⟩ kss (λz=>by rw[if_pos z]) (λz=>by rw[if_neg z]) (λm=>?_) (λb hb=>?_)
 ·refine OffA.trans (s1.offA.trans ?_) (s4.offA.trans (zbn (by simp)))
  exact OffA.putDict o13 λb hb=>by rw[zms.mp hb];simp
 ·exact⟨dx4,nd5 _ _ hh4 (λ_ z=>by cases z)⟩
 ·unfold setC
  by_cases z:m=n
  ·rw[if_pos z];exact rtc
  ·rw[if_neg z]
   exact hA.rt m (by rcases (kss m).mp hm with w | w;exact w;exact absurd w z)
 ·by_cases z:n∈ks
  ·rw[if_pos z];exact hA.few
  ·rw[if_neg z,List.length_append,List.length_singleton]
   rcases hfew with w | w
   ·exact absurd w z
   ·omega
 ·exact (kss m).mpr (.inl (hA4.sub m hm))
 ·rcases zma.mp hb with z | z
  ·obtain⟨o,e,n⟩:=hC.hasN b z
   exact⟨o,nd5 b o e n,n⟩
  ·obtain⟨o,e,n⟩:=hA4.has b z
   exact⟨o,nd5 b o e n,n⟩
 ·rw[hm3,hm2]
  exact⟨λz=>⟨z.1.1,z.2,z.1.2⟩,λz=>⟨⟨z.1,z.2.2⟩,z.2.1⟩⟩
 ·rcases zma.mp hb with z | z
  ·right
   have e3:=hf b z
   cases eb:H b with
   | none=>rfl
   | some o=>
    exfalso
    by_cases nb:b=va
    ·obtain⟨kv3,hv3,_⟩:=hA3.vou
     rw[nb,hv3] at e3;cases e3
    ·have:=o13 b o (by simp[nb]) (s1 _ _ eb)
     rw[this] at e3;cases e3
  ·exact .inl z
inductive Q88 (K:Fg) (vs:List V) (H:Hp) (Q:VK) (E:XK):Prop
 | mk (c k m:Int):vs=[.int c,.int k,.int m]→0<m→Q (.int (mix c k m)) H→Q88 K vs H Q E
theorem zd5 {H:Hp}{Q:VK}{E:XK}{c k m:Int}(h:0<m) (q:Q (.int (mix c k m)) H):Q88 K [.int c,.int k,.int m] H Q E:=⟨c,k,m,rfl,h,q⟩
theorem zmU {f:Addr}{fd:FuncData}(B:Bl K mg) {C:Nat→Addr}(Z:Zt K mg C)  (F:Fun K "_law_mix" "_law_mix" Q87 f fd) (m:mg "_law_mix"=some (.ref f)):Fn P w K mg base "_law_mix" ["cell","k","many"] 1 (Q88 K):=by
 refine Fn.of (k:=0) F zmM m (λ_ _ _ _ _ _ us hl=>match us,hl with | [_,_,_],_=>rfl) (λvs H Q E h=>?_) (λcdv A outer s H vs Q E hr h=>?_)
 ·first
  | (obtain⟨_,_,_,rfl,_⟩:=h;rfl)
 obtain⟨c,k,m,rfl,hm,q⟩:=h
 refine⟨_,(zag (zar (zaE zce (zaE zcY (zaE zce (zaE zbm (zaE (zaO K) (zaE zce (pv 0) zaa) zaa) (zaE (zaO K) zaa (zaE zbm zaa (pv 1)))) zaa) zaa) (pv 2)))),?_⟩
 have h1:=Int.emod_nonneg c (show (2147483647:Int)≠0 by decide)
 have h2:=Int.emod_lt_of_pos c (show (0:Int)<2147483647 by decide)
 ac_rfl
 exact q
inductive Q8b (K:Fg) (vs:List V) (H:Hp) (Q:VK) (E:XK):Prop
 | mk (c k:Int):vs=[.int c,.int k]→(∀ H',Same H H'→Q (.int (number c k)) H')→Q8b K vs H Q E
theorem zdI {H:Hp}{Q:VK}{E:XK}{c k:Int}(q:∀ H',Same H H'→Q (.int (number c k)) H'):Q8b K [.int c,.int k] H Q E:=⟨c,k,rfl,q⟩
theorem zi2 {f:Addr}{fd:FuncData}(B:Bl K mg) {C:Nat→Addr}(Z:Zt K mg C) (Q89:Fn P w K mg base "_law_mix" ["cell","k","many"] 1 (Q88 K)) (F:Fun K "_law_number" "_law_number" Q8a f fd) (m:mg "_law_number"=some (.ref f)):Fn P w K mg base "_law_number" ["cell","k"] 2 (Q8b K):=by
 refine Fn.of (k:=1) F zfN m (λ_ _ _ _ _ _ us hl=>match us,hl with | [_,_],_=>rfl) (λvs H Q E h=>?_) (λcdv A outer s H vs Q E hr h=>?_)
 ·first
  | (obtain⟨_,_,rfl,_⟩:=h;rfl)
 obtain⟨c,k,rfl,q⟩:=h
 refine⟨_,(zae (zaA (i:=2) zfN.nd rfl (Or.inl rfl) (zat Q89 hr rfl (zac (pv 0) (zac (pv 1) (zaf zaa zab)))))
   (zae (zaR (zau (k_eq K hr) (pv 2) zaa (zay _)) (zag (zar (zaE zky (zaE zce (pv 0) (zaE (zaO K) (zaE zbm zaa (zaE zg8 zaa zaa)) zaa)) (zaE zg8 zaa zaa)))) zax)
   (zae (zaR (zau (k_eq K hr) (pv 2) zaa (zay _)) (zag (zar (zao (k_ix K) (za3 (za6 (zaE zg8 zaa zaa) (zmw (zcX zbM (zaE zg8 zaa zaa)) (zaf zaa (zmw (zcX zbM zaa) zab))))) (zat Q89 hr rfl (zac (pv 0) (za6 (zaE (zaO K) (pv 1) zaa) (zaf zaa zab)))) (λ_ _=>rfl)))) zax)
   (zag (zar (zaE zky (zat Q89 hr rfl (zac (pv 0) (za6 (zaE (zaO K) (pv 1) zaa) (zaf zaa zab)))) zaa)))))),?_⟩
 have n1:=za7 (c:=c) (k:=k+1) (m:=4) (by decide)
 have n2:=zcR (c:=c) (k:=k+1) (m:=4) (by decide)
 ac_rfl
 refine zd5 (by decide) ?_
 ac_rfl
 refine ite2 (λe=>?_) (λe=>?_)
 ·have e':mix c k 9=0:=of_decide_eq_true e
  ac_rfl
  have q':=q H (Same.refl H)
  unfold number at q'
  rw[if_pos e'] at q'
  exact q'
 ·have e':¬ mix c k 9=0:=of_decide_eq_false (Bool.eq_false_iff.mpr e)
  ac_rfl
  refine ite2 (λe2=>?_) (λe2=>?_)
  ·have e2':mix c k 9=1:=of_decide_eq_true e2
   ac_rfl
   refine⟨by decide,λp hp=>?_⟩
   ac_rfl
   refine zd5 (by decide) ?_
   have q':=q (upd H p (.lst [.int 1000000000,.int (-1000000000),.int 999999999,.int (-999999999)])) (zah hp _)
   unfold number at q'
   rw[if_neg e',if_pos e2'] at q'
   refine zaF (SqL.of zad) ?_ q'
   have c4:mix c (k+1) 4=0∨mix c (k+1) 4=1∨mix c (k+1) 4=2∨mix c (k+1) 4=3:=by omega
   rcases c4 with z | z | z | z <;> rw[z] <;> rfl
  ·have e2':¬ mix c k 9=1:=of_decide_eq_false (Bool.eq_false_iff.mpr e2)
   ac_rfl
   refine zd5 (by decide) ?_
   ac_rfl
   have q':=q H (Same.refl H)
   unfold number at q'
   rw[if_neg e',if_neg e2'] at q'
   exact q'
inductive Q8e (K:Fg) (vs:List V) (H:Hp) (Q:VK) (E:XK):Prop
 | mk (c:Int) (za:Addr) (zs:List Int):vs=[.int c,.ref za]→SqL K H za (zs.map V.int)→(∀ v H',Same H H'→New H H' (nums (zbP c zs)) v→Q v H')→Q8e K vs H Q E
theorem zlM (zs:List Int):(zs.map V.int).all zdg=true:=by rw[List.all_map,List.all_eq_true];intro x _;rfl
theorem zh8 {f:Addr}{fd:FuncData}(B:Bl K mg) {C:Nat→Addr}(Z:Zt K mg C) (Q8c:Fn P w K mg base "_law_number" ["cell","k"] 2 (Q8b K)) (Q89:Fn P w K mg base "_law_mix" ["cell","k","many"] 1 (Q88 K)) (F:Fun K "_law_line_by" "_law_line_by" Q8d f fd) (m:mg "_law_line_by"=some (.ref f)):Fn P w K mg base "_law_line_by" ["cell","zero"] 3 (Q8e K):=by
 refine Fn.of (k:=2) F zdx m (λ_ _ _ _ _ _ us hl=>match us,hl with | [_,_],_=>rfl) (λvs H Q E h=>?_) (λcdv A outer s H vs Q E hr h=>?_)
 ·first
  | (obtain⟨_,_,_,rfl,_⟩:=h;rfl)
 obtain⟨c,za,zs,rfl,hZ,q⟩:=h
 refine⟨_,(zae (zcP (i:=2) zdx.nd rfl rfl rfl (COk.m (sc0:=zai Q8d) (N:=["cell","zero","line","k"]) (N':=["cell","zero","line","k"]) (ms:=[false,false,false,true])) (zbz rfl B.range (zaf zaa zab)) (λ_ _ _ _ _=>(zaK (i:=3) (ndS (N:=["cell","zero","line","k"])) rfl (Or.inl rfl))) (λ_ _ _ _ _=>za0) (λ_ _ _ _ _=>(zat Q8c hr rfl (zac (pv 0) (za6 (zaE zbm zaa (pv 3)) zab)))))
   (zae (zdM PassesOwn.never rfl (zbz rfl B.range (zaf zaa zab)) (zaK (i:=3) zdx.nd rfl (Or.inl rfl)) (zag (zaR (PW.pt (zkt (zau (k_in K) (pv 3) (pv 1) rfl) (zg6 (zau (k_eq K hr) (zat Q89 hr rfl (zac (pv 0) (za6 (zaE (zaO K) zaa (pv 3)) (zaf zaa zab)))) zaa (zay _))))) (zag (zcd zaa (zck (pv 2) (zaE (zaO K) (pv 3) zaa) zbg))) zax)))
   (zag (zar (pv 2))))),?_⟩
 ac_rfl
 refine zcZ (by decide) (by decide) ?_
 refine za8 (n:=9) zbZ (((List.range 9).map λ(j:Nat)=>number c (5 * (0+(j:Int)))).map D.int) (by simp) (by decide) (λi x d H1 R hi hd s1 hx hR=>?_) (λv H1 s1 n1=>?_)
 ·subst hx
  rw[List.map_map] at hd
  have hd':=zec hd
  subst hd'
  ac_rfl
  refine zdI λH2 s2=>?_
  exact hR _ _ s2 New.int
 obtain⟨la,rfl,la0,la1⟩:=New.iif.mp n1
 rw[←zj1 c zs] at la1
 ac_rfl
 refine zcZ (by decide) (by decide) ?_
 refine ziv (λi σ H2=>∃ x,i≤8∧σ=[some (.int c),some (.ref za),some (.ref la),x]∧Same H H2∧H2 la=some (.lst ((zdn c zs i).map V.int)))
  ⟨none,by decide,rfl,s1,la1⟩ ?_ ?_
 ·rintro i σ H2 hi ⟨x,_,rfl,s2,e2⟩
  have i8:i<8:=hi
  have step:∀ b:Bool,zef c zs i=b→(b=true→(ixN ((zdn c zs i).map V.int).length (0+(i:Int)+1)=some (i+1))):=λb hb _=>by
   rw[zlm,zhF]
   unfold ixN
   rw[if_pos (by omega),if_pos (by omega)]
   congr 1
   omega
  have yes:zef c zs i=true→∃ x,i+1≤8∧[some (V.int c),some (.ref za),some (.ref la),some (.int (0+(i:Int)))]=[some (.int c),some (.ref za),some (.ref la),x]∧Same H (upd H2 la (.lst (((zdn c zs i).map V.int).set (i+1) (.int 0))))∧(upd H2 la (.lst (((zdn c zs i).map V.int).set (i+1) (.int 0)))) la=some (.lst ((zdn c zs (i+1)).map V.int)):=λhb=>by
   refine⟨_,by omega,rfl,λd o e=>?_,?_⟩
   ·rw[zaj (zam e la0)];exact s2 _ _ e
   ·rw[zad,←zlk i8 hb,List.map_set]
  ac_rfl
  refine i_in (neg:=false) (.inl (s2.seq hZ)) rfl (zlM zs) ?_
  cases hb1:inV (.int (0+(i:Int))) (zs.map V.int) with
  | true=>
   have hb:zef c zs i=true:=by unfold zef;rw[hb1];rfl
   show ∃ k,V.bl true=.bl k∧_
   ac_rfl
   refine zbw e2 (step true hb rfl) ?_
   exact yes hb
  | false=>
   show ∃ k,V.bl false=.bl k∧_
   ac_rfl
   refine zd5 (by decide) ?_
   ac_rfl
   cases hb2:decide (mix c (60+(0+(i:Int))) 3=0) with
   | true=>
    have hb:zef c zs i=true:=by unfold zef;rw[hb1,hb2];rfl
    ac_rfl
    refine zbw e2 (step true hb rfl) ?_
    exact yes hb
   | false=>
    have hb:zef c zs i=false:=by unfold zef;rw[hb1,hb2];rfl
    ac_rfl
    exact⟨_,by omega,rfl,s2,by rw[←zj0 hb];exact e2⟩
 ·rintro σ H2 ⟨x,_,rfl,s2,e2⟩
  ac_rfl
  refine q _ _ s2 (New.iif.mpr ⟨la,rfl,la0,?_⟩)
  rw[←zll]
  exact e2
inductive Q94 (K:Fg) (vs:List V) (H:Hp) (Q:VK) (E:XK):Prop
 | mk (c:Int) (za:Addr) (zs:List Int):vs=[.int c,.ref za]→SqL K H za (zs.map V.int)→(∀ v H',Same H H'→New H H' (zaG (zb5 c zs)) v→Q v H')→Q94 K vs H Q E
theorem zg1 {f:Addr}{fd:FuncData}(B:Bl K mg) {C:Nat→Addr}(Z:Zt K mg C) (Q8f:Fn P w K mg base "_law_line_by" ["cell","zero"] 3 (Q8e K)) (Q89:Fn P w K mg base "_law_mix" ["cell","k","many"] 1 (Q88 K)) (F:Fun K "_law_lines_by" "_law_lines_by" Q93 f fd) (m:mg "_law_lines_by"=some (.ref f)):Fn P w K mg base "_law_lines_by" ["cell","zero"] 4 (Q94 K):=by
 refine Fn.of (k:=3) F zgT m (λ_ _ _ _ _ _ us hl=>match us,hl with | [_,_],_=>rfl) (λvs H Q E h=>?_) (λcdv A outer s H vs Q E hr h=>?_)
 ·first
  | (obtain⟨_,_,_,rfl,_⟩:=h;rfl)
 obtain⟨c,za,zs,rfl,hZ,q⟩:=h
 refine⟨_,(zag (zar (zbE rfl (COk.m (sc0:=zai Q93) (N:=["cell","zero"]) (N':=["cell","zero","k"]) (ms:=[false,false,true])) (zbz rfl B.range (zaL (zat Q89 hr rfl (zac (pv 0) (zaf zaa (zaf zaa zab)))) zab)) (λ_ _ _ _ _=>(zaK (i:=2) (ndS (N:=["cell","zero","k"])) rfl (Or.inl rfl))) (λ_ _ _ _ _=>za0) (λ_ _ _ _ _=>(zat Q8f hr rfl (za6 (zaE (zaO K) (pv 0) (zaE zbm zaa (pv 2))) (zac (pv 1) zab))))))),?_⟩
 have h1:=za7 (c:=c) (k:=20) (m:=3) (by decide)
 have h2:=zcR (c:=c) (k:=20) (m:=3) (by decide)
 ac_rfl
 refine zd5 (by decide) ?_
 ac_rfl
 refine zcZ (by omega) (by omega) ?_
 refine za8 zbZ ((zb5 c zs).map nums) (by simp[zb5]) (zaC (by omega)) (λi x d H1 R hi hd s1 hx hR=>?_) (λv H1 s1 n1=>?_)
 ·subst hx
  unfold zb5 at hd
  rw[List.map_map] at hd
  have hd':=zec hd
  subst hd'
  ac_rfl
  refine⟨_,za,zs,rfl,s1.seq hZ,λv H2 s2 n2=>?_⟩
  exact hR _ _ s2 n2
 exact q _ _ s1 n1
inductive Q85 (K:Fg) (vs:List V) (H:Hp) (Q:VK) (E:XK):Prop
 | mk (a:Addr) (k:Int) (ns:List Int):vs=[.ref a,.int k]→SqL K H a (ns.map V.int)→0≤k→Q (.int (cell ns k)) H→Q85 K vs H Q E
theorem zbY {H:Hp}{Q:VK}{E:XK}{a:Addr}{k:Int}{ns:List Int}(h:SqL K H a (ns.map V.int)) (hk:0≤k) (q:Q (.int (cell ns k)) H):Q85 K [.ref a,.int k] H Q E:=⟨a,k,ns,rfl,h,hk,q⟩
theorem zh9 {f:Addr}{fd:FuncData}(B:Bl K mg) {C:Nat→Addr}(Z:Zt K mg C)  (F:Fun K "_law_cell_at" "_law_cell_at" Q84 f fd) (m:mg "_law_cell_at"=some (.ref f)):Fn P w K mg base "_law_cell_at" ["script","k"] 1 (Q85 K):=by
 refine Fn.of (k:=0) F zhY m (λ_ _ _ _ _ _ us hl=>match us,hl with | [_,_],_=>rfl) (λvs H Q E h=>?_) (λcdv A outer s H vs Q E hr h=>?_)
 ·first
  | (obtain⟨_,_,_,rfl,_⟩:=h;rfl)
 obtain⟨a,k,ns,rfl,hS,hk,q⟩:=h
 refine⟨_,(zae (zaR (zau zlY (pv 1) (zaH (zdY K) rfl B.len L2.boot_len (zac (pv 0) zab)) (zay _)) (zag (zar (zao (k_ix K) (pv 0) (pv 1) (λ_ _=>rfl)))) zax)
   (zag (zar zaa))),?_⟩
 ac_rfl
 refine zdX (.inl hS) ?_
 ac_rfl
 rw[zlm]
 unfold cell at q
 refine ite2 (λe=>?_) (λe=>?_)
 ·have e':k<(ns.length:Int):=of_decide_eq_true e
  ac_rfl
  have hl:k.toNat<ns.length:=by omega
  refine zaF hS (v:=.int (ns.getD k.toNat 0)) ?_ q
  have z:atI (ns.map V.int) ((k.toNat:Nat):Int)=some (.int (ns.getD k.toNat 0)):=zan (by simp[hl])
  rwa [show ((k.toNat:Nat):Int)=k by omega] at z
 ·have e':¬ k<(ns.length:Int):=of_decide_eq_false (Bool.eq_false_iff.mpr e)
  ac_rfl
  have hl:ns.getD k.toNat 0=0:=by simp[List.getD,List.getElem?_eq_none (show ns.length≤k.toNat by omega)]
  rw[hl] at q
  exact q
inductive Q91 (K:Fg) (vs:List V) (H:Hp) (Q:VK) (E:XK):Prop
 | mk (c count:Int):vs=[.int c,.int count]→0≤count→(∀ v H',Same H H'→New H H' (zlp c count) v→Q v H')→Q91 K vs H Q E
theorem zia {f:Addr}{fd:FuncData}(B:Bl K mg) {C:Nat→Addr}(Z:Zt K mg C) (Q8f:Fn P w K mg base "_law_line_by" ["cell","zero"] 3 (Q8e K)) (Q89:Fn P w K mg base "_law_mix" ["cell","k","many"] 1 (Q88 K)) (Q8c:Fn P w K mg base "_law_number" ["cell","k"] 2 (Q8b K)) (F:Fun K "_law_deed_by" "_law_deed_by" Q90 f fd) (m:mg "_law_deed_by"=some (.ref f)):Fn P w K mg base "_law_deed_by" ["cell","count"] 4 (Q91 K):=by
 refine Fn.of (k:=3) F zbK m (λ_ _ _ _ _ _ us hl=>match us,hl with | [_,_],_=>rfl) (λvs H Q E h=>?_) (λcdv A outer s H vs Q E hr h=>?_)
 ·first
  | (obtain⟨_,_,rfl,_⟩:=h;rfl)
 obtain⟨c,count,rfl,hc,q⟩:=h
 refine⟨_,(zae (zaA (i:=2) zbK.nd rfl (Or.inl rfl) (zat Q8f hr rfl (za6 (zaE zcY (pv 0) zaa) (zeM (za3 (zaf zaa (zaf zaa zab))) zab))))
   (zae (zaA (i:=3) zbK.nd rfl (Or.inl rfl) (zat Q89 hr rfl (zac (pv 0) (zaf zaa (zaf zaa zab)))))
   (zae (zaA (i:=4) zbK.nd rfl (Or.inl rfl) (zat Q89 hr rfl (zac (pv 0) (zaf zaa (zaf zaa zab)))))
   (zae (zaR (zau (k_eq K hr) (pv 4) zaa (zay _)) (zag (zar (zaZ (zaf zaJ (zac (pv 3) (zac (pv 2) zab)))))) zax)
   (zae (zaR (zau (k_eq K hr) (pv 4) zaa (zay _)) (zag (zar (zaZ (zaf zaJ (zac (pv 3) (zac (pv 2) (zaw (zao (k_ix K) (za3 (zaf zaa (zaf zaa (za6 (zaE (zaO K) zaa (zat Q89 hr rfl (zac (pv 0) (zaf zaa (zaf zaa zab))))) (zaf zaa zab))))) (zat Q89 hr rfl (zac (pv 0) (zaf zaa (zaf zaa zab)))) (λ_ _=>rfl)) zab))))))) zax)
   (zae (zaR (zau (k_eq K hr) (pv 4) zaa (zay _)) (zae (zaA (i:=5) zbK.nd rfl (Or.inl rfl) (zat Q8c hr rfl (za6 (zaE zcY (pv 0) zaa) (zaf zaa zab))))
   (zag (zar (zaZ (zaf zaJ (zac (pv 3) (zac (pv 5) (zaL (zaH (c_max rfl) rfl B.max L2.zmq (zac (pv 5) (zaL (zat Q8c hr rfl (za6 (zaE zcY (pv 0) zaa) (zaf zaa zab))) zab))) zab)))))))) zax)
   (zae (zaR (zau (k_eq K hr) (pv 4) zaa (zay _)) (zag (zar (zaZ (zaf zaJ (zac (pv 2) (zaL (zat Q89 hr rfl (zac (pv 0) (zaf zaa (za6 (zaE (zaO K) (pv 1) zaa) zab)))) zab)))))) zax)
   (zae (zaR (zau (k_eq K hr) (pv 4) zaa (zay _)) (zag (zar (zaZ (zaf zaJ (zac (pv 2) zab))))) zax)
   (zae (zaA (i:=6) zbK.nd rfl (Or.inl rfl) (zaZ (zaL (zat Q89 hr rfl (zac (pv 0) (zaf zaa (zaf zaa zab)))) (zaL (zat Q89 hr rfl (zac (pv 0) (zaf zaa (zaf zaa zab)))) zab))))
   (zag (zar (zaZ (zaf zaJ (zaL (zat Q89 hr rfl (zac (pv 0) (zaf zaa (zaf zaa zab)))) (zac (pv 6) (zhC (zaZ (zac (pv 3) (za6 (zaE zce (zaE (zaO K) (zaE (zaO K) (pv 3) zaa) (zat Q89 hr rfl (zac (pv 0) (zaf zaa (zaf zaa zab))))) zaa) zab))) zab)))))))))))))))),?_⟩
 have k0:=za7 (c:=c) (k:=6) (m:=4) (by decide)
 have k1:=zcR (c:=c) (k:=6) (m:=4) (by decide)
 unfold zlp at q
 ac_rfl
 refine⟨by decide,λp hp=>?_⟩
 ac_rfl
 refine⟨_,p,[6,7],rfl,SqL.of zad,λv H1 s1 n1=>?_⟩
 obtain⟨la,rfl,la0,la1⟩:=New.iif.mp n1
 have s0:=(zah hp (.lst [.int 6,.int 7])).trans s1
 have la2:H la=none:=(zah hp _).free la0
 ac_rfl
 refine zd5 (by decide) ?_
 ac_rfl
 refine zd5 (by decide) ?_
 ac_rfl
 refine ite2 (λe=>?_) (λe=>?_)
 ·have e':mix c 4 6=0:=of_decide_eq_true e
  rw[if_pos e'] at q
  ac_rfl
  refine⟨by show 3≤sizeLine;decide,λt ht=>?_⟩
  refine q _ _ (s0.trans (zah ht _)) (New.tup (fp:=[la]) (zak.cstr (zak.cint (zak.cany (f:=[la]) (RepF.line (zah ht _ _ _ la1)) zak.nil))) (by simp) (λb m=>by rw[zms.mp m];exact la2) zad)
 have e0:¬ mix c 4 6=0:=of_decide_eq_false (Bool.eq_false_iff.mpr e)
 rw[if_neg e0] at q
 ac_rfl
 refine ite2 (λe=>?_) (λe=>?_)
 ·have e':mix c 4 6=1:=of_decide_eq_true e
  rw[if_pos e'] at q
  ac_rfl
  refine zd5 (by decide) ?_
  ac_rfl
  refine⟨by show 4≤sizeLine;decide,λm hm=>?_⟩
  have s2:=zah hm (.lst [.int 1,.int 1000,.int (1+mix c 5 1000),.int 2])
  ac_rfl
  refine zd5 (by decide) ?_
  refine zaF (SqL.of zad) (v:=.int (byOf c)) ?_ ?_
  ·unfold byOf
   have c4:mix c 6 4=0∨mix c 6 4=1∨mix c 6 4=2∨mix c 6 4=3:=by omega
   rcases c4 with z | z | z | z <;> rw[z] <;> rfl
  ac_rfl
  refine⟨by show 4≤sizeLine;decide,λt ht=>?_⟩
  refine q _ _ (s0.trans (s2.trans (zah ht _))) (New.tup (fp:=[la]) (zak.cstr (zak.cint (zak.cany (f:=[la]) (RepF.line (zah ht _ _ _ (s2 _ _ la1))) (zak.cint zak.nil)))) (by simp) (λb m=>by rw[zms.mp m];exact la2) zad)
 have e1:¬ mix c 4 6=1:=of_decide_eq_false (Bool.eq_false_iff.mpr e)
 rw[if_neg e1] at q
 ac_rfl
 refine ite2 (λe=>?_) (λe=>?_)
 ·have e':mix c 4 6=2:=of_decide_eq_true e
  rw[if_pos e'] at q
  ac_rfl
  refine zdI λH2 s2=>?_
  ac_rfl
  refine zdI λH3 s3=>?_
  ac_rfl
  refine i_max ?_
  ac_rfl
  refine⟨by show 4≤sizeLine;decide,λt ht=>?_⟩
  refine q _ _ (s0.trans (s2.trans (s3.trans (zah ht _)))) (New.tup (fp:=[]) (zak.cstr (zak.cint (zak.cint (zak.cint zak.nil)))) (by simp) (λb m=>by cases m) zad)
 have e2:¬ mix c 4 6=2:=of_decide_eq_false (Bool.eq_false_iff.mpr e)
 rw[if_neg e2] at q
 ac_rfl
 refine ite2 (λe=>?_) (λe=>?_)
 ·have e':mix c 4 6=3:=of_decide_eq_true e
  rw[if_pos e'] at q
  ac_rfl
  refine zd5 (by omega) ?_
  ac_rfl
  refine⟨by show 3≤sizeLine;decide,λt ht=>?_⟩
  refine q _ _ (s0.trans (zah ht _)) (New.tup (fp:=[la]) (zak.cstr (zak.cany (f:=[la]) (RepF.line (zah ht _ _ _ la1)) (zak.cint zak.nil))) (by simp) (λb m=>by rw[zms.mp m];exact la2) zad)
 have e3:¬ mix c 4 6=3:=of_decide_eq_false (Bool.eq_false_iff.mpr e)
 rw[if_neg e3] at q
 ac_rfl
 refine ite2 (λe=>?_) (λe=>?_)
 ·have e':mix c 4 6=4:=of_decide_eq_true e
  rw[if_pos e'] at q
  ac_rfl
  refine⟨by show 2≤sizeLine;decide,λt ht=>?_⟩
  refine q _ _ (s0.trans (zah ht _)) (New.tup (fp:=[la]) (zak.cstr (zak.cany (f:=[la]) (RepF.line (zah ht _ _ _ la1)) zak.nil)) (by simp) (λb m=>by rw[zms.mp m];exact la2) zad)
 have e4:¬ mix c 4 6=4:=of_decide_eq_false (Bool.eq_false_iff.mpr e)
 rw[if_neg e4] at q
 ac_rfl
 refine zd5 (by decide) ?_
 ac_rfl
 refine zd5 (by decide) ?_
 ac_rfl
 refine⟨by show 2≤sizeLine;decide,λg hg=>?_⟩
 have s2:=zah hg (.tup [.int (mix c 10 4),.int (mix c 11 4)])
 ac_rfl
 refine zd5 (by decide) ?_
 ac_rfl
 refine zd5 (by decide) ?_
 ac_rfl
 refine⟨by show 2≤sizeLine;decide,λu hu'=>?_⟩
 have s3:=zah hu' (.tup [.int (mix c 3 4),.int ((mix c 3 4+1+mix c 13 3) % 4)])
 refine⟨by show 4≤sizeLine;decide,λt ht=>?_⟩
 have s4:=zah ht (.tup [.str "call",.int (mix c 12 100),.ref g,.ref u])
 refine q _ _ (s0.trans (s2.trans (s3.trans s4))) (New.tup (fp:=[]) (zak.cstr (zak.cint (zak.cany (f:=[]) (RepF.pair (s4 _ _ (s3 _ _ zad))) (zak.cany (f:=[]) (RepF.pair (s4 _ _ zad)) zak.nil)))) (by simp) (λb m=>by cases m) zad)
inductive Q97 (K:Fg) (vs:List V) (H:Hp) (Q:VK) (E:XK):Prop
 | mk (a:Addr) (start count:Int) (ns:List Int):vs=[.ref a,.int start,.int count]→SqL K H a (ns.map V.int)→0≤start→0≤count→count≤8→(∀ v H',Same H H'→New H H' (zlq ns start count) v→Q v H')→Q97 K vs H Q E
theorem zg2 {f:Addr}{fd:FuncData}(B:Bl K mg) {C:Nat→Addr}(Z:Zt K mg C) (Q95:Fn P w K mg base "_law_lines_by" ["cell","zero"] 4 (Q94 K)) (Q86:Fn P w K mg base "_law_cell_at" ["script","k"] 1 (Q85 K)) (Q92:Fn P w K mg base "_law_deed_by" ["cell","count"] 4 (Q91 K)) (F:Fun K "_law_parts_by" "_law_parts_by" Q96 f fd) (m:mg "_law_parts_by"=some (.ref f)):Fn P w K mg base "_law_parts_by" ["script","start","count"] 5 (Q97 K):=by
 refine Fn.of (k:=4) F zbT m (λ_ _ _ _ _ _ us hl=>match us,hl with | [_,_,_],_=>rfl) (λvs H Q E h=>?_) (λcdv A outer s H vs Q E hr h=>?_)
 ·first
  | (obtain⟨_,_,_,_,rfl,_⟩:=h;rfl)
 obtain⟨a,start,count,ns,rfl,hS,hst,hc0,hc8,q⟩:=h
 refine⟨_,(zae (zaA (i:=3) zbT.nd rfl (Or.inl rfl) (zat Q95 hr rfl (zaL (zat Q86 hr rfl (zac (pv 0) (zac (pv 1) zab))) (zeM (za3 (zaf zaa (zaf zaa (zaf zaa (zaf zaa (zaf zaa (zaf zaa zab))))))) zab))))
   (zae (zaA (i:=4) zbT.nd rfl (Or.inl rfl) (zat Q95 hr rfl (zaL (zat Q86 hr rfl (zac (pv 0) (za6 (zaE (zaO K) (pv 1) zaa) zab))) (zeM (za3 (zaf zaa (zaf zaa (zaf zaa (zaf zaa zab))))) zab))))
   (zae (zcP (i:=5) zbT.nd rfl rfl rfl (COk.m (sc0:=zai Q96) (N:=["script","start","count","needs","leaves","deeds","notes"]) (N':=["script","start","count","needs","leaves","deeds","notes","k"]) (ms:=[false,false,false,false,false,false,false,true])) (zbz rfl B.range (zac (pv 2) zab)) (λ_ _ _ _ _=>(zaK (i:=7) (ndS (N:=["script","start","count","needs","leaves","deeds","notes","k"])) rfl (Or.inl rfl))) (λ_ _ _ _ _=>za0) (λ_ _ _ _ _=>(zat Q92 hr rfl (zaL (zat Q86 hr rfl (zac (pv 0) (za6 (zaE (zaO K) (zaE (zaO K) (pv 1) zaa) (pv 7)) zab))) (zac (pv 2) zab)))))
   (zae (zcP (i:=6) zbT.nd rfl rfl rfl (COk.m (sc0:=zai Q96) (N:=["script","start","count","needs","leaves","deeds","notes"]) (N':=["script","start","count","needs","leaves","deeds","notes","k"]) (ms:=[false,false,false,false,false,false,false,true])) (zbz rfl B.range (zac (pv 2) zab)) (λ_ _ _ _ _=>(zaK (i:=7) (ndS (N:=["script","start","count","needs","leaves","deeds","notes","k"])) rfl (Or.inl rfl))) (λ_ _ _ _ _=>za0) (λ_ _ _ _ _=>(zat Q95 hr rfl (za6 (zaE zcY (zat Q86 hr rfl (zac (pv 0) (za6 (zaE (zaO K) (zaE (zaO K) (pv 1) zaa) (pv 7)) zab))) zaa) (zeM (za3 (zaf zaa (zaf zaa zab))) zab)))))
   (zag (zar (za3 (zac (pv 3) (zac (pv 4) (zac (pv 5) (zac (pv 6) zab))))))))))),?_⟩
 ac_rfl
 refine zbY hS hst ?_
 ac_rfl
 refine⟨by show 6≤sizeLine;decide,λp hp=>?_⟩
 have r1:=zah hp (.lst [.int 0,.int 1,.int 2,.int 3,.int 6,.int 7])
 ac_rfl
 refine⟨_,p,[0,1,2,3,6,7],rfl,SqL.of zad,λv1 H1 s1 n1=>?_⟩
 have t1:=r1.trans s1
 ac_rfl
 refine zbY (t1.seq hS) (by omega) ?_
 ac_rfl
 refine⟨by show 4≤sizeLine;decide,λp2 hp2=>?_⟩
 have r2:=zah hp2 (.lst [.int 0,.int 1,.int 2,.int 3])
 ac_rfl
 refine⟨_,p2,[0,1,2,3],rfl,SqL.of zad,λv2 H2 s2 n2=>?_⟩
 have t2:=t1.trans (r2.trans s2)
 ac_rfl
 refine zcZ (by omega) (by omega) ?_
 refine za8 zbZ (zgq ns start count) (by simp[zgq]) (zaC (by omega)) (λi x d H3 R hi hd s3 hx hR=>?_) (λv3 H3 s3 n3=>?_)
 ·subst hx
  unfold zgq at hd
  have hd':=zec hd
  subst hd'
  ac_rfl
  refine zbY ((t2.trans s3).seq hS) (by omega) ?_
  ac_rfl
  refine⟨_,_,rfl,hc0,λv H4 s4 n4=>?_⟩
  exact hR _ _ s4 n4
 have t3:=t2.trans s3
 ac_rfl
 refine zcZ (by omega) (by omega) ?_
 refine za8 zbZ ((zdo ns start count).map zaG) (by simp[zdo]) (zaC (by omega)) (λi x d H4 R hi hd s4 hx hR=>?_) (λv4 H4 s4 n4=>?_)
 ·subst hx
  unfold zdo at hd
  rw[List.map_map] at hd
  have hd':=zec hd
  subst hd'
  ac_rfl
  refine zbY ((t3.trans s4).seq hS) (by omega) ?_
  ac_rfl
  refine⟨by show 2≤sizeLine;decide,λp3 hp3=>?_⟩
  have r3:=zah hp3 (.lst [.int 6,.int 7])
  ac_rfl
  refine⟨_,p3,[6,7],rfl,SqL.of zad,λv5 H5 s5 n5=>?_⟩
  exact hR _ _ (r3.trans s5) (n5.back r3)
 ac_rfl
 refine⟨by show 4≤sizeLine;decide,λt ht=>?_⟩
 have s5:=zah ht (.lst [v1,v2,v3,v4])
 refine q _ _ ((t3.trans s4).trans s5) ?_
 have w1:News H H1 [zaG (zfv ns start)] [v1]:=News.nil.snoc (H1:=H) (Same.refl H) t1 (n1.back r1)
 have w2:=(w1.same r2).snoc (t1.trans r2) s2 n2
 have w3:=w2.snoc t2 s3 n3
 have w4:=w3.snoc t3 s4 n4
 exact w4.lst (t3.trans s4) ht
theorem zjA {J:It}{H1:Hp}{n:Nat}{P:Nat→V→Hp→Prop}{g:TG}{te:TE}{σ0:L2.St}{Q:VK}(S:Addr→Prop) (wk:Goes J H1 n P) (ds:List D) (hn:ds.length=n) (hz:n≤sizeLine)
  (step:∀ i x d H' (R:VK),i<n→ds[i]?=some d→Same H1 H'→P i x H'→(∀ y H3 f,Same H' H3→RepF H3 d y f→(∀ b∈f,S b∧(H1 b≠none∨H' b=none))→R y H3)→g x σ0 H' λσ2 H2=>te σ2 H2 R)
  (fin:∀ a H' ys fp,Same H1 H'→H1 a=none→H' a=some (.lst ys)→zak H' ds ys fp→(∀ b∈fp,S b)→Q (.ref a) H'):zji J g znS te σ0 H1 Q:=by
 intro Da hD
 refine⟨λi m ys H=>m=n - i∧i≤n∧Same H1 H∧H Da=some (.lst ys)∧∃ fp,zak H (ds.take i) ys fp∧Da∉fp∧∀ b∈fp,S b,⟨n,rfl,Nat.zero_le _,zah hD _,zad,[],?_,by simp,λ_ m=>by cases m⟩,?_⟩
 ·rw[List.take_zero];unfold zak;exact⟨rfl,rfl⟩
 rintro i m ys H ⟨rfl,hi,hs,hH,fp,hr,na,hf⟩
 refine⟨hH,?_⟩
 have hl:=hr.length
 rw[List.length_take] at hl
 by_cases hlt:i<n
 ·refine .inr ⟨wk.go i H hlt hs,by omega,λys' H'=>(n - (i+1)<n - i∧i+1≤n∧Same H1 H'∧H' Da=some (.lst ys')∧∃ fp,zak H' (ds.take (i+1)) ys' fp∧Da∉fp∧∀ b∈fp,S b),λys' H' ⟨q1,q2,q3,q4,q5⟩=>⟨n - (i+1),q1,rfl,q2,q3,q4,q5⟩,λx H' hy=>?_⟩
  obtain⟨s1,hp⟩:=wk.yld i H x H' hlt hs hy
  have hi':i<ds.length:=by omega
  refine step i x ds[i] H' _ hlt (by simp) (hs.trans s1) hp λy H3 fq s3 h1 h3=>?_
  have hD3:H3 Da=some (.lst ys):=s3 _ _ (s1 _ _ hH)
  refine⟨hD3,by omega,hlt,?_,zad,?_⟩
  ·intro b o e
   rw[zaj (zam e hD)]
   exact s3 _ _ (s1 _ _ (hs _ _ e))
  ·have keep:∀ b∈fp,(upd H3 Da (.lst (ys++[y]))) b=H b:=λb hb=>by
    obtain⟨o,ho⟩:=zak.has _ hr b hb
    rw[zaj (show b≠Da from λz=>na (by rw[←z];exact hb)),ho]
    exact s3 _ _ (s1 _ _ ho)
   have nDq:Da∉fq:=λz=>by
    rcases (h3 Da z).2 with w | w
    ·exact w hD
    ·rw[s1 _ _ hH] at w;cases w
   have tk2:Tups H3 (upd H3 Da (.lst (ys++[y]))):=zbC hD3
   have tk1:Tups H (upd H3 Da (.lst (ys++[y]))):=((s1.trans s3).tups).trans tk2
   have keep2:∀ b∈fq,(upd H3 Da (.lst (ys++[y]))) b=H3 b:=λb hb=>by rw[zaj (show b≠Da from λz=>nDq (by rw[←z];exact hb))]
   refine⟨fp++fq,?_,?_,?_⟩
   ·have:=(zak.frame tk1 _ keep hr).snoc (RepF.frame tk2 _ keep2 h1)
    rw[List.take_add_one,show ds[i]?.toList=[ds[i]] by simp[hi']]
    exact this
   ·exact λz=>(zma.mp z).elim na nDq
   ·intro b hb
    rcases zma.mp hb with z | z
    ·exact hf b z
    ·exact (h3 b z).1
 ·have e:i=n:=by omega
  subst e
  rw[List.take_of_length_le (by omega)] at hr
  exact .inl ⟨wk.stop H hs,fin _ _ _ _ hs hD hH hr hf⟩
structure PG (H0 H:Hp) (pa:Addr) (c:Cr) (v1 v2 v3 v4:V) (f1 f2 f3 f4:List Addr):Prop where
 p:H pa=some (.lst [v1,v2,v3,v4])
 h1:RepF H (zaG c.needs) v1 f1
 h2:RepF H (zaG c.leaves) v2 f2
 h3:RepF H (.lst (c.deeds.map toD)) v3 f3
 h4:RepF H (.lst (c.notes.map zaG)) v4 f4
 n:∀ b∈f1++(f2++(f3++f4)),H0 b=none∧b≠pa
 n0:H0 pa=none
section
variable {H0 H H' : Hp} {pa : Addr} {c : Cr} {v1 v2 v3 v4 : V} {f1 f2 f3 f4 : List Addr}
theorem PG.mem (A:PG H0 H pa c v1 v2 v3 v4 f1 f2 f3 f4):(∀ b∈f1,H0 b=none∧b≠pa)∧(∀ b∈f2,H0 b=none∧b≠pa)∧(∀ b∈f3,H0 b=none∧b≠pa)∧∀ b∈f4,H0 b=none∧b≠pa:=
 ⟨λb hb=>A.n b (by simp[hb]),λb hb=>A.n b (by simp[hb]),λb hb=>A.n b (by simp[hb]),λb hb=>A.n b (by simp[hb])⟩
theorem PG.set3 {ds:List Dd}{x:V}{g:List Addr}(A:PG H0 H pa c v1 v2 v3 v4 f1 f2 f3 f4) (s:Same H H') (hx:RepF H' (.lst (ds.map toD)) x g) (hg:∀ b∈g,H0 b=none∧b≠pa):PG H0 (upd H' pa (.lst [v1,v2,x,v4])) pa {c with deeds:=ds} v1 v2 x v4 f1 f2 g f4:=by
 obtain⟨m1,m2,m3,m4⟩:=A.mem
 have hp:=s _ _ A.p
 refine⟨zad,RepF.ud hp (λz=>(m1 _ z).2 rfl) (RepF.sm s A.h1),RepF.ud hp (λz=>(m2 _ z).2 rfl) (RepF.sm s A.h2),RepF.ud hp (λz=>(hg _ z).2 rfl) hx,RepF.ud hp (λz=>(m4 _ z).2 rfl) (RepF.sm s A.h4),λb hb=>?_,A.n0⟩
 simp only[zma] at hb
 rcases hb with z | z | z | z
 ·exact m1 b z
 ·exact m2 b z
 ·exact hg b z
 ·exact m4 b z
theorem PG.set1 {x:V}{g:List Addr}(A:PG H0 H pa c v1 v2 v3 v4 f1 f2 f3 f4) (s:Same H H') (hx:RepF H' (zaG []) x g) (hg:∀ b∈g,H0 b=none∧b≠pa):PG H0 (upd H' pa (.lst [x,v2,v3,v4])) pa {c with needs:=[]} x v2 v3 v4 g f2 f3 f4:=by
 obtain⟨m1,m2,m3,m4⟩:=A.mem
 have hp:=s _ _ A.p
 refine⟨zad,RepF.ud hp (λz=>(hg _ z).2 rfl) hx,RepF.ud hp (λz=>(m2 _ z).2 rfl) (RepF.sm s A.h2),RepF.ud hp (λz=>(m3 _ z).2 rfl) (RepF.sm s A.h3),RepF.ud hp (λz=>(m4 _ z).2 rfl) (RepF.sm s A.h4),λb hb=>?_,A.n0⟩
 simp only[zma] at hb
 rcases hb with z | z | z | z
 ·exact hg b z
 ·exact m2 b z
 ·exact m3 b z
 ·exact m4 b z
theorem PG.rep (A:PG H0 H pa c v1 v2 v3 v4 f1 f2 f3 f4):∃ fp,RepF H (crD c) (.ref pa) fp∧∀ b∈fp,H0 b=none:=by
 refine⟨pa::(f1++(f2++(f3++f4))),?_,λb hb=>?_⟩
 ·unfold crD RepF
  exact⟨pa,_,_,rfl,rfl,A.p,zak.in4 A.h1 A.h2 A.h3 A.h4⟩
 ·rcases List.mem_cons.mp hb with z | z
  ·rw[z];exact A.n0
  ·exact (A.n b z).1
end
def zgf:Dd→Dd | .call _ _ _ _ _=>.hold [1,0,0,0,0,0,0,0,0] | d=>d
def zkj:Dd→Dd | .turn _ p=>.turn [0,0,0,0,0,0,0,0,0] p | d=>d
theorem Cr.Rt.deedsMap {c:Cr}(r:c.Rt) {f:Dd→Dd}(ho:∀ n d,zaY n d=true→zaY n (f d)=true) (h9:∀ d,zdp d→zdp (f d)):({c with deeds:=c.deeds.map f} : Cr).Rt:=by
 refine⟨⟨r.nine.n9,r.nine.l9,λe he=>?_,r.nine.o9,r.nine.n,r.nine.l,by show (c.deeds.map f).length≤100;rw[zlm];exact r.nine.d,r.nine.o⟩,?_⟩
 ·obtain⟨d,hd,rfl⟩:=zmm.mp (show e∈c.deeds.map f from he)
  exact h9 d (r.nine.d9 d hd)
 ·have rr:zbW c.needs c.leaves c.deeds c.notes=true:=r.r
  show zbW c.needs c.leaves (c.deeds.map f) c.notes=true
  unfold zbW zdr zds at rr ⊢
  simp only[zlm,Bool.and_eq_true,List.all_map,List.all_eq_true,Function.comp_apply,id_eq] at rr ⊢
  refine⟨rr.1,⟨rr.2.1.1,λe he=>?_⟩,rr.2.2⟩
  exact ho _ e (rr.2.1.2 e he)
theorem zmV {n:Int}{d:Dd}(h:zaY n d=true):zaY n (zgf d)=true:=by
 cases d with
 | call=>show zbB [7,8] [1,0,0,0,0,0,0,0,0]=true;decide +kernel
 | _=>exact h
theorem zmW {n:Int}{d:Dd}(h:zaY n d=true):zaY n (zkj d)=true:=by
 cases d with
 | turn l p=>
  unfold zaY at h
  show (zbB [7,8] [0,0,0,0,0,0,0,0,0] && btw 0 p n)=true
  rw[Bool.and_eq_true] at h ⊢
  exact⟨by decide +kernel,h.2⟩
 | _=>exact h
theorem zox {d:Dd}(h:zdp d):zdp (zgf d):=by
 cases d with
 | call=>rfl
 | _=>exact h
theorem zoy {d:Dd}(h:zdp d):zdp (zkj d):=by
 cases d with
 | turn l p=>rfl
 | _=>exact h
inductive sp_l_parts_here (K:Fg) (vs:List V) (H:Hp) (Q:VK) (E:XK):Prop
 | mk (a:Addr) (ns:List Int):vs=[.ref a]→SqL K H a (ns.map V.int)→(∀ pa H' c fp,Same H H'→RepF H' (crD c) (.ref pa) fp→(∀ b∈fp,H b=none)→c.Rt→Q (.ref pa) H')→sp_l_parts_here K vs H Q E
theorem zak.itemS {H:Hp} : ∀ {ds:List D}{vs:List V}{f:List Addr}(i:Nat) (d:D) (x:V),zak H ds vs f→ds[i]?=some d→vs[i]?=some x→∃ g,RepF H d x g∧∀ b∈g,b∈f
 | [],_,_,i,d,x,_,e,_=>by simp at e
 | e::ds,_,_,0,d,x,h,e1,e2=>by
  unfold zak at h
  obtain⟨v,r,f,g,rfl,rfl,h1,h2⟩:=h
  simp at e1 e2
  subst e1;subst e2
  exact⟨f,h1,λb hb=>List.mem_append_left _ hb⟩
 | e::ds,_,_,i+1,d,x,h,e1,e2=>by
  unfold zak at h
  obtain⟨v,r,f,g,rfl,rfl,h1,h2⟩:=h
  obtain⟨q,hq,sub⟩:=zak.itemS i d x h2 (by simpa using e1) (by simpa using e2)
  exact⟨q,hq,λb hb=>List.mem_append_right _ (sub b hb)⟩
theorem zjB {H:Hp}{d:Dd}{x:V}{f:List Addr}(h9:zdp d) (h:RepF H (toD d) x f):∃ T k r,x=.ref T∧H T=some (.tup (.str k::r))∧(zgf d=d∧decide (k ="call")=false∨zgf d=.hold [1,0,0,0,0,0,0,0,0]∧decide (k ="call")=true)∧(zkj d=d∧decide (k ="turn")=false∨∃ y p,zkj d=.turn [0,0,0,0,0,0,0,0,0] p∧r=[y,.int p]∧decide (k ="turn")=true):=by
 have hdr:=zfq (zei h9) h
 cases d with
 | call m g0 g1 t0 t1=>
  obtain⟨T,ys,rfl,hT,px⟩:=zaT hdr
  obtain⟨x0,ys,rfl,e0,px⟩:=zal px
  cases zbc e0
  exact⟨T,_,_,rfl,hT,.inr ⟨rfl,by decide +kernel⟩,.inl ⟨rfl,by decide +kernel⟩⟩
 | turn l p=>
  obtain⟨T,ys,rfl,hT,px⟩:=zaT hdr
  obtain⟨x0,ys,rfl,e0,px⟩:=zal px
  obtain⟨x1,ys,rfl,e1,px⟩:=zal px
  obtain⟨x2,ys,rfl,e2,px⟩:=zal px
  cases zbi px
  cases zbc e0
  cases za4 e2
  exact⟨T,_,_,rfl,hT,.inl ⟨rfl,by decide +kernel⟩,.inr ⟨_,_,rfl,rfl,by decide +kernel⟩⟩
 | _=>
  obtain⟨T,ys,rfl,hT,px⟩:=zaT hdr
  obtain⟨x0,ys,rfl,e0,px⟩:=zal px
  cases zbc e0
  exact⟨T,_,_,rfl,hT,.inl ⟨rfl,by decide +kernel⟩,.inl ⟨rfl,by decide +kernel⟩⟩
theorem zfV {f:Addr}{fd:FuncData}(B:Bl K mg) {C:Nat→Addr}(Z:Zt K mg C) (Q98:Fn P w K mg base "_law_parts_by" ["script","start","count"] 5 (Q97 K)) (Q86:Fn P w K mg base "_law_cell_at" ["script","k"] 1 (Q85 K)) (F:Fun K "_law_parts_here" "_law_parts_here" s_l_parts_here f fd) (m:mg "_law_parts_here"=some (.ref f)):Fn P w K mg base "_law_parts_here" ["script"] 6 (sp_l_parts_here K):=by
 refine Fn.of (k:=5) F zct m (λ_ _ _ _ _ _ us hl=>match us,hl with | [_],_=>rfl) (λvs H Q E h=>?_) (λcdv A outer s H vs Q E hr h=>?_)
 ·first
  | (obtain⟨_,_,rfl,_⟩:=h;rfl)
 obtain⟨a,ns,rfl,hS,q⟩:=h
 refine⟨_,(zae (zaA (i:=1) zct.nd rfl (Or.inl rfl) (zaE (zaO K) zaa (zaE zce (zat Q86 hr rfl (zac (pv 0) (zaf zaa zab))) zaa)))
   (zae (zaA (i:=2) zct.nd rfl (Or.inl rfl) (zat Q98 hr rfl (zac (pv 0) (zaf zaa (zac (pv 1) zab)))))
   (zae (zcd (zbE rfl (COk.m (sc0:=zai s_l_parts_here) (N:=["script","count","parts"]) (N':=["script","count","parts","deed"]) (ms:=[false,false,false,true])) (zbO K (zao (k_ix K) (pv 2) zaa (λ_ _=>rfl))) (λ_ _ _ _ _=>(zaK (i:=3) (ndS (N:=["script","count","parts","deed"])) rfl (Or.inl rfl))) (λ_ _ _ _ _=>za0) (λ_ _ _ _ _=>(zdz (zau (k_eq K hr) (zao (k_ix K) (pv 3) zaa (λ_ _=>rfl)) zaJ (zay _)) (zaZ (zaf zaJ (za6 (zaE (zaO K) (za3 (zaf zaa zab)) (zaE zbm (za3 (zaf zaa zab)) zaa)) zab))) (pv 3)))) (zck (pv 2) zaa zbg))
   (zae (zaR (zau (k_eq K hr) (zaE zce (zat Q86 hr rfl (zac (pv 0) (zaf zaa zab))) zaa) zaa (zay _)) (zag (zcd (zbE rfl (COk.m (sc0:=zai s_l_parts_here) (N:=["script","count","parts"]) (N':=["script","count","parts","deed"]) (ms:=[false,false,false,true])) (zbO K (zao (k_ix K) (pv 2) zaa (λ_ _=>rfl))) (λ_ _ _ _ _=>(zaK (i:=3) (ndS (N:=["script","count","parts","deed"])) rfl (Or.inl rfl))) (λ_ _ _ _ _=>za0) (λ_ _ _ _ _=>(zdz (zau (k_eq K hr) (zao (k_ix K) (pv 3) zaa (λ_ _=>rfl)) zaJ (zay _)) (zaZ (zaf zaJ (za6 (zaE zbm (za3 (zaf zaa zab)) zaa) (zaw (zao (k_ix K) (pv 3) zaa (λ_ _=>rfl)) zab)))) (pv 3)))) (zck (pv 2) zaa zbg))) zax)
   (zae (zaR (zau zoU (zaE zce (zat Q86 hr rfl (zac (pv 0) (zaf zaa zab))) zaa) zaa (zay _)) (zag (zcd (za3 zab) (zck (pv 2) zaa zbg))) zax)
   (zag (zar (pv 2)))))))),?_⟩
 nofun
 walk_at "q"
 nofun
 refine zbY hS (by decide) ?_
 nofun
 have c1:=Int.emod_nonneg (cell ns 0) (show (8:Int)≠0 by decide)
 have c2:=Int.emod_lt_of_pos (cell ns 0) (show (0:Int)<8 by decide)
 have cm:1≤1+cell ns 0 % 8∧1+cell ns 0 % 8≤8:=by omega
 generalize 1+cell ns 0 % 8=count at *
 nofun
 walk_at "q"
 nofun
 refine⟨a,_,count,ns,rfl,hS,by decide,by omega,by omega,λv H1 s1 n1=>?_⟩
 rw[←crP_D] at n1
 have rt1:=zqb (ns:=ns) (start:=12) cm.1 cm.2
 generalize crP ns 12 count=c0 at n1 rt1
 obtain⟨fp0,hr1,nd1,f1⟩:=n1
 obtain⟨pa,_,_,rfl,_⟩:=RepF.lso hr1
 obtain⟨v1,v2,b3,v4,dvs,g1,g2,g3,g4,hpa,efp,h1,h2,hb3,h3,h4⟩:=PF.out ⟨hr1,nd1⟩
 have A1:PG H H1 pa c0 v1 v2 (.ref b3) v4 g1 g2 (b3::g3) g4:=by
  refine⟨hpa,h1,h2,by unfold RepF;exact⟨b3,dvs,g3,rfl,rfl,hb3,h3⟩,h4,λb hb=>?_,f1 _ (by rw[efp];simp)⟩
  rw[efp] at nd1 f1
  have:=(List.nodup_cons.mp nd1).1
  exact⟨f1 b (List.mem_cons_of_mem _ hb),λz=>this (by rw[←z];exact hb)⟩
 clear hpa efp h1 h2 h4 hr1 nd1 f1
 nofun
 walk_at "q"
 nofun
 refine zaF (SqL.of A1.p) (v:=.ref b3) (zan (j:=2) rfl) ?_
 nofun
 refine⟨b3,rfl,⟨_,SqL.of hb3⟩,?_⟩
 have ld:dvs.length=c0.deeds.length:=by have:=h3.length;rw[zlm] at this;exact this.symm
 have d8:=rt1.parts.2.2.1
 refine zjA (λb=>H b=none∧b≠pa) (zbh (SqL.of hb3)) ((c0.deeds.map zgf).map toD) (by simp[ld]) (zaC (by omega)) (λj x d H2 R hj hd s2 hx hR=>?_) (λla H2 ys fp s2 la0 hla hrp hfp=>?_)
 ·rw[zgm,zgm] at hd
  have hj':j<c0.deeds.length:=by omega
  rw[List.getElem?_eq_getElem hj'] at hd
  cases hd
  obtain⟨fi,hfi,sub⟩:=zak.itemS j (toD c0.deeds[j]) x h3 (by rw[zgm,List.getElem?_eq_getElem hj'];rfl) hx
  obtain⟨T,k,r,rfl,hT,hc,_⟩:=zjB (rt1.nine.d9 _ (List.getElem_mem hj')) hfi
  have hT2:=s2 _ _ hT
  nofun
  refine zaD (SqT.of hT2) (v:=.str k) zaB ?_
  nofun
  rcases hc with ⟨ed,ek⟩ | ⟨ed,ek⟩
  ·rw[ek]
   nofun
   refine hR _ H2 fi (Same.refl _) (by rw[ed];exact RepF.sm s2 hfi) λb hb=>⟨A1.mem.2.2.1 b (List.mem_cons_of_mem _ (sub b hb)),.inl λz=>?_⟩
   obtain⟨o,ho⟩:=RepF.has _ hfi b hb
   rw[z] at ho;cases ho
  ·rw[ek]
   nofun
   refine⟨(by walk_at "sm"),λz1 hz1=>?_⟩
   have r1:=zah hz1 (.lst [V.int 1])
   nofun
   refine⟨(by walk_at "sm"),λz2 hz2=>?_⟩
   have r2:=zah hz2 (.lst [V.int 0])
   nofun
   refine .inr ⟨z2,8,[.int 0],rfl,rfl,zad,by decide,by decide,by decide,λz3 hz3=>?_⟩
   rw[show (List.replicate (8:Int).toNat [V.int 0]).flatten=([0,0,0,0,0,0,0,0]:List Int).map V.int from rfl]
   have r3:=zah hz3 (.lst (([0,0,0,0,0,0,0,0]:List Int).map V.int))
   nofun
   refine zb8 (r3 _ _ (r2 _ _ zad)) zad ((by walk_at "sm")) λz4 hz4=>?_
   have r4:=zah hz4 (.lst ([V.int 1]++([0,0,0,0,0,0,0,0]:List Int).map V.int))
   have rr:=r1.trans (r2.trans (r3.trans r4))
   have e4:=zad (H:=upd (upd (upd H2 z1 (.lst [V.int 1])) z2 (.lst [V.int 0])) z3 (.lst (([0,0,0,0,0,0,0,0]:List Int).map V.int))) (a:=z4) (o:=.lst ([V.int 1]++([0,0,0,0,0,0,0,0]:List Int).map V.int))
   have f4:=(r1.trans (r2.trans r3)).free hz4
   generalize upd (upd (upd (upd H2 z1 (.lst [V.int 1])) z2 (.lst [V.int 0])) z3 (.lst (([0,0,0,0,0,0,0,0]:List Int).map V.int))) z4 (.lst ([V.int 1]++([0,0,0,0,0,0,0,0]:List Int).map V.int))=H3 at *
   nofun
   refine⟨(by walk_at "sm"),λt ht=>?_⟩
   have r5:=zah ht (.tup [V.str "hold",.ref z4])
   refine hR _ _ [z4] (rr.trans r5) ?_ λb hb=>?_
   ·rw[ed]
    unfold toD RepF
    exact⟨t,_,rfl,zad,zak.cstr (zak.cany (f:=[z4]) (RepF.line (r5 _ _ e4)) zak.nil)⟩
   ·rw[zms.mp hb]
    exact⟨⟨(s1.trans s2).free f4,λz=>by rw[z,s2 _ _ A1.p] at f4;cases f4⟩,.inr f4⟩
 have s2':=s1.trans s2
 have A2:=A1.set3 (ds:=c0.deeds.map zgf) (x:=.ref la) (g:=la::fp) s2 (by unfold RepF;exact⟨la,ys,fp,rfl,rfl,hla,hrp⟩) (λb hb=>by
  rcases List.mem_cons.mp hb with z | z
  ·rw[z];exact⟨s1.free la0,λw=>by rw[w,A1.p] at la0;cases la0⟩
  ·exact hfp b z)
 have rt2:({c0 with deeds:=c0.deeds.map zgf} : Cr).Rt:=rt1.deedsMap (λ_ _=>zmV) λ_=>zox
 nofun
 refine zbw (j:=2) (s2 _ _ A1.p) rfl ?_
 rw[show [v1,v2,V.ref b3,v4].set 2 (V.ref la)=[v1,v2,.ref la,v4] from rfl]
 have s2:Same H (upd H2 pa (.lst [v1,v2,.ref la,v4])):=s2'.put A1.n0
 have hla2:(upd H2 pa (.lst [v1,v2,.ref la,v4])) la=some (.lst ys):=by
  rw[zaj (λw=>by rw[w,A1.p] at la0;cases la0)];exact hla
 clear s2' hrp hfp hla la0 h3 hb3 ld d8 A1 s1 rt1
 have hdl:(c0.deeds.map zgf).length≤8:=rt2.parts.2.2.1.2
 change PG H (upd H2 pa (.lst [v1,v2,.ref la,v4])) pa {c0 with deeds:=c0.deeds.map zgf} v1 v2 (.ref la) v4 g1 g2 (la::fp) g4 at A2
 generalize upd H2 pa (.lst [v1,v2,.ref la,v4])=H3 at *
 obtain⟨nd0,lv0,dd0,nt0⟩:=c0
 dsimp only at A2 rt2 hdl
 generalize dd0.map zgf=dd at *
 nofun
 -- turns that are always taken
 with_reducible refine zee (λσ H'=>E9 λc v1 v2 v3 v4 f1 f2 f3 f4=>A4 (σ=[some (.ref a),some (.int count),some (.ref pa)]) (Same H H') (PG H H' pa c v1 v2 v3 v4 f1 f2 f3 f4) (c.Rt)) (λNX tail=>?_) ?_
 ·nofun
  refine zbY (s2.seq hS) (by decide) ?_
  nofun
  refine zeS (λe=>?_) (λe=>?_)
  ·have h3:=A2.h3
   unfold RepF at h3
   obtain⟨b3,dvs,r3,e3,ef,hb3,h3⟩:=h3
   cases e3
   rw[hla2] at hb3
   cases hb3
   have ld:ys.length=dd.length:=by have:=h3.length;rw[zlm] at this;exact this.symm
   nofun
   refine zaF (SqL.of A2.p) (v:=.ref la) (zan (j:=2) rfl) ?_
   nofun
   refine⟨la,rfl,⟨_,SqL.of hla2⟩,?_⟩
   refine zjA (λb=>H b=none∧b≠pa) (zbh (SqL.of hla2)) ((dd.map zkj).map toD) (by simp[ld]) (zaC (by omega)) (λj x d H4 R hj hd s4 hx hR=>?_) (λlb H4 zs fp4 s4 lb0 hlb hrp hfp=>?_)
   ·rw[zgm,zgm] at hd
    have hj':j<dd.length:=by omega
    rw[List.getElem?_eq_getElem hj'] at hd
    cases hd
    obtain⟨fi,hfi,sub⟩:=zak.itemS j (toD dd[j]) x h3 (by rw[zgm,List.getElem?_eq_getElem hj'];rfl) hx
    obtain⟨T,k,r,rfl,hT,_,hc⟩:=zjB (rt2.nine.d9 _ (List.getElem_mem hj')) hfi
    have hT2:=s4 _ _ hT
    nofun
    refine zaD (SqT.of hT2) (v:=.str k) zaB ?_
    nofun
    rcases hc with ⟨ed,ek⟩ | ⟨y,p,ed,rfl,ek⟩
    ·rw[ek]
     nofun
     refine hR _ H4 fi (Same.refl _) (by rw[ed];exact RepF.sm s4 hfi) λb hb=>⟨A2.mem.2.2.1 b (by rw[ef];exact List.mem_cons_of_mem _ (sub b hb)),.inl λz=>?_⟩
     obtain⟨o,ho⟩:=RepF.has _ hfi b hb
     rw[z] at ho;cases ho
    ·rw[ek]
     nofun
     refine⟨(by walk_at "sm"),λz2 hz2=>?_⟩
     have r2:=zah hz2 (.lst [V.int 0])
     nofun
     refine .inr ⟨z2,9,[.int 0],rfl,rfl,zad,by decide,by decide,by decide,λz4 hz4=>?_⟩
     rw[show (List.replicate (9:Int).toNat [V.int 0]).flatten=([0,0,0,0,0,0,0,0,0]:List Int).map V.int from rfl]
     have rr:=r2.trans (zah hz4 (.lst (([0,0,0,0,0,0,0,0,0]:List Int).map V.int)))
     have e4:=zad (H:=upd H4 z2 (.lst [V.int 0])) (a:=z4) (o:=.lst (([0,0,0,0,0,0,0,0,0]:List Int).map V.int))
     have f4:=r2.free hz4
     generalize upd (upd H4 z2 (.lst [V.int 0])) z4 (.lst (([0,0,0,0,0,0,0,0,0]:List Int).map V.int))=H5 at *
     nofun
     refine zaD (SqT.of (rr _ _ hT2)) (v:=.int p) (zan (j:=2) rfl) ?_
     nofun
     refine⟨(by walk_at "sm"),λt ht=>?_⟩
     have r5:=zah ht (.tup [V.str "turn",.ref z4,.int p])
     refine hR _ _ [z4] (rr.trans r5) ?_ λb hb=>?_
     ·rw[ed]
      unfold toD RepF
      exact⟨t,_,rfl,zad,zak.cstr (zak.cany (f:=[z4]) (RepF.line (r5 _ _ e4)) (zak.cint zak.nil))⟩
     ·rw[zms.mp hb]
      exact⟨⟨(s2.trans s4).free f4,λz=>by rw[z,s4 _ _ A2.p] at f4;cases f4⟩,.inr f4⟩
   nofun
   refine zbw (j:=2) (s4 _ _ A2.p) rfl ?_
   exact tail _ _ ⟨_,_,_,_,_,_,_,_,_,rfl,(s2.trans s4).put A2.n0,A2.set3 (ds:=dd.map zkj) (x:=.ref lb) (g:=lb::fp4) s4 (by unfold RepF;exact⟨lb,zs,fp4,rfl,rfl,hlb,hrp⟩) (λb hb=>by
    rcases List.mem_cons.mp hb with z | z
    ·rw[z];exact⟨s2.free lb0,λw=>by rw[w,A2.p] at lb0;cases lb0⟩
    ·exact hfp b z),rt2.deedsMap (λ_ _=>zmW) λ_=>zoy⟩
  ·nofun
   exact tail _ _ ⟨_,_,_,_,_,_,_,_,_,rfl,s2,A2,rt2⟩
 rintro σ H4 ⟨c,v1,v2,v3,v4,f1,f2,f3,f4,rfl,s4,X4,rt4⟩
 -- no needs
 with_reducible refine zee (λσ H'=>E9 λc v1 v2 v3 v4 f1 f2 f3 f4=>A4 (σ=[some (.ref a),some (.int count),some (.ref pa)]) (Same H H') (PG H H' pa c v1 v2 v3 v4 f1 f2 f3 f4) (c.Rt)) (λNX tail=>?_) ?_
 ·nofun
  refine zbY (s4.seq hS) (by decide) ?_
  nofun
  refine zeS (λe=>?_) (λe=>?_)
  ·nofun
   refine⟨(by walk_at "sm"),λga hga=>?_⟩
   have r1:=zah hga (.lst [])
   nofun
   refine zbw (j:=0) (r1 _ _ X4.p) rfl ?_
   exact tail _ _ ⟨_,_,_,_,_,_,_,_,_,rfl,(s4.trans r1).put X4.n0,X4.set1 (x:=.ref ga) (g:=[ga]) r1 (by unfold zaG RepF;exact⟨ga,[],[],rfl,rfl,zad,zak.nil⟩) (λb hb=>by rw[zms.mp hb];exact⟨s4.free hga,λz=>by rw[z,X4.p] at hga;cases hga⟩),rt4.noNeeds⟩
  ·nofun
   exact tail _ _ ⟨_,_,_,_,_,_,_,_,_,rfl,s4,X4,rt4⟩
 rintro σ H5 ⟨c,v1,v2,v3,v4,f1,f2,f3,f4,rfl,s5,X5,rt5⟩
 nofun
 obtain⟨fp,h1,h2⟩:=X5.rep
 exact q pa H5 c fp s5 h1 h2 rt5
def zdJ (K:Fg):Sp:=spW K .int
theorem zkk {f:Addr}{fd:FuncData}(B:Bl K mg) {C:Nat→Addr}(Z:Zt K mg C)  (F:Fun K "_law_worth" "_law_worth" Q9a f fd) (m:mg "_law_worth"=some (.ref f)):Fn P w K mg base "_law_worth" ["line","numbers"] 1 (zdJ K):=by
 refine Fn.of (k:=0) F zdH m (λ_ _ _ _ _ _ us hl=>match us,hl with | [_,_],_=>rfl) (λvs H Q E h=>?_) (λcdv A outer s H vs Q E hr h=>?_)
 ·first
  | (obtain⟨rfl,_⟩:=h;rfl)
  | (obtain⟨_,rfl,_⟩:=h;rfl)
  | (obtain⟨_,_,rfl,_⟩:=h;rfl)
  | (obtain⟨_,_,_,rfl,_⟩:=h;rfl)
  | (obtain⟨_,_,_,_,rfl,_⟩:=h;rfl)
  | (obtain⟨_,_,_,_,_,rfl,_⟩:=h;rfl)
  | (obtain⟨_,_,_,_,_,_,rfl,_⟩:=h;rfl)
  | (obtain⟨_,_,_,_,_,_,_,rfl,_⟩:=h;rfl)
  | (obtain⟨_,_,_,_,_,_,_,_,rfl,_⟩:=h;rfl)
  | (obtain⟨_,_,_,_,_,_,_,_,_,rfl,_⟩:=h;rfl)
  | (obtain⟨_,_,_,_,_,_,_,_,_,_,rfl,_⟩:=h;rfl)
  | (obtain⟨_,_,_,_,_,_,_,_,_,_,_,rfl,_⟩:=h;rfl)
  | (obtain⟨_,_,_,_,_,_,_,_,_,_,_,_,rfl,_⟩:=h;rfl)
  | (obtain⟨_,_,_,_,_,_,_,_,_,_,_,_,_,rfl,_⟩:=h;rfl)
  | (obtain⟨_,_,_,_,_,_,_,_,_,_,_,_,_,_,rfl,_⟩:=h;rfl)
  | (obtain⟨_,_,_,_,_,_,_,_,_,_,_,_,_,_,_,rfl,_⟩:=h;rfl)
  | (obtain⟨_,_,_,_,_,_,_,_,_,_,_,_,_,_,_,_,rfl,_⟩:=h;rfl)
 obtain⟨a,b,c,fs,ns,rfl,hA,hB,lf,ln,mo,q⟩:=h
 refine⟨_,(zae (zaA (i:=2) zdH.nd rfl (Or.inl rfl) (zao (k_ix K) (pv 0) zaa (λ_ _=>rfl)))
   (zae (zdM PassesOwn.never rfl (zbz rfl B.range (zaf zaa zab)) (zaK (i:=3) zdH.nd rfl (Or.inl rfl)) (zag (zaA (i:=2) zdH.nd rfl (Or.inl rfl) (zaE (zaO K) (pv 2) (zaE zbm (zao (k_ix K) (pv 0) (zaE (zaO K) (pv 3) zaa) (λ_ _=>rfl)) (zao (k_ix K) (pv 1) (pv 3) (λ_ _=>rfl)))))))
   (zag (zar (pv 2))))),?_⟩
 ac_rfl
 refine zaF hA (v:=.int c) zaB ?_
 ac_rfl
 refine⟨8,rfl,by decide,by decide,?_⟩
 refine zfp (n:=8) zbZ (λi σ H2=>∃ x,σ=[some (.ref a),some (.ref b),some (.int (c+dot (fs.take i) (ns.take i))),x]∧Same H H2)
  ⟨none,by simp[dot];rfl,Same.refl _⟩ (λi σ H2 ⟨_,_,e⟩=>e) ?_ ?_
 ·rintro i v σ H2 H3 hi ⟨x,rfl,s2⟩ s3 rfl
  have i1:i<fs.length:=by omega
  have i2:i<ns.length:=by omega
  ac_rfl
  have e1:atI ((c::fs).map V.int) ((0:Int)+(i:Int)+1)=some (.int fs[i]):=by
   rw[show (0:Int)+(i:Int)+1=((i+1:Nat):Int) by omega]
   exact zan (by simp[i1])
  refine zaF ((s2.trans s3).seq hA) e1 ?_
  ac_rfl
  have e2:atI (ns.map V.int) ((0:Int)+(i:Int))=some (.int ns[i]):=by
   rw[show (0:Int)+(i:Int)=((i:Nat):Int) by omega]
   exact zan (by simp[i2])
  refine zaF ((s2.trans s3).seq hB) e2 ?_
  refine ze5 (mo i fs[i] ns[i] (by simp) (by simp)) ?_
  ac_rfl
  refine⟨some (.int (0+(i:Int))),?_,s2.trans s3⟩
  rw[zc1 fs ns i fs[i] ns[i] (by simp) (by simp),Int.add_assoc]
  rfl
 ·rintro σ H2 ⟨x,rfl,s2⟩
  ac_rfl
  rw[List.take_of_length_le (by omega),List.take_of_length_le (by omega)]
  exact q _ s2
inductive Q9d (K:Fg) (vs:List V) (H:Hp) (Q:VK) (E:XK):Prop
 | mk (la na:Addr) (ls:List (List Int)) (ns:List Int):vs=[.ref la,.ref na]→zbI K H la ls→SqL K H na (ns.map V.int)→ns.length=8→(∀ l∈ls,l.length=9∧Sm l)→ls.length≤1000→(∀ H',Same H H'→Q (.int (ffI (zav ls ns))) H')→Q9d K vs H Q E
theorem i_ff {H:Hp}{Q:VK}{E:XK}{la na:Addr}{ls:List (List Int)}{ns:List Int}(h1:zbI K H la ls) (h2:SqL K H na (ns.map V.int)) (h3:ns.length=8) (h4:∀ l∈ls,l.length=9∧Sm l) (h5:ls.length≤1000) (q:∀ H',Same H H'→Q (.int (ffI (zav ls ns))) H'):Q9d K [.ref la,.ref na] H Q E:=⟨la,na,ls,ns,rfl,h1,h2,h3,h4,h5,q⟩
theorem zet {H:Hp}{Q:VK}{E:XK}{la na:Addr}{l ns:List Int}(h9:l.length=9) (sm:Sm l) (h1:SqL K H la (l.map V.int)) (h2:SqL K H na (ns.map V.int)) (h3:ns.length=8) (q:∀ H',Same H H'→Q (.int (zaV l ns)) H'):zdJ K [.ref la,.ref na] H Q E:=by
 cases l with
 | nil=>simp at h9
 | cons c fs=>
 refine⟨la,na,c,fs,ns,rfl,h1,h2,by simpa using h9,h3,zjs sm,λH' s=>?_⟩
 rw[←zc2]
 exact q H' s
theorem ze1 {f:Addr}{fd:FuncData}(B:Bl K mg) {C:Nat→Addr}(Z:Zt K mg C) (Q9b:Fn P w K mg base "_law_worth" ["line","numbers"] 1 (zdJ K)) (F:Fun K "_law_first_false" "_law_first_false" Q9c f fd) (m:mg "_law_first_false"=some (.ref f)):Fn P w K mg base "_law_first_false" ["lines","numbers"] 2 (Q9d K):=by
 refine Fn.of (k:=1) F zdc m (λ_ _ _ _ _ _ us hl=>match us,hl with | [_,_],_=>rfl) (λvs H Q E h=>?_) (λcdv A outer s H vs Q E hr h=>?_)
 ·first
  | (obtain⟨_,_,_,_,rfl,_⟩:=h;rfl)
 obtain⟨la,na,ls,ns,rfl,⟨xs,hla,hxs⟩,hna,n8,h9,l1,q⟩:=h
 refine⟨_,(zae (zdM PassesOwn.never rfl (zbz rfl B.range (zaL (zaH (zdY K) rfl B.len L2.boot_len (zac (pv 0) zab)) zab)) (zaK (i:=2) zdc.nd rfl (Or.inl rfl)) (zag (zaR (zau zlY (zat Q9b hr rfl (zaw (zao (k_ix K) (pv 0) (pv 2) (λ_ _=>rfl)) (zac (pv 1) zab))) zaa (zay _)) (zag (zar (pv 2))) zax)))
   (zag (zar (zcX zbM zaa)))),?_⟩
 have lx:=hxs.length
 rw[zlm] at lx
 nofun
 walk_at "q"
 nofun
 refine zdX (.inl (SqL.of hla)) ?_
 refine zcZ (by omega) (by omega) ?_
 refine zfp (n:=xs.length) zbZ (λi σ H2=>∃ x,A3 (σ=[some (.ref la),some (.ref na),x]) (Same H H2) ((ls.take i).findIdx? (λl=>decide (zaV l ns<0))=none))
  ⟨none,rfl,Same.refl _,rfl⟩ (λi σ H2 ⟨_,_,e,_⟩=>e) ?_ ?_
 ·rintro i v σ H2 H3 hi ⟨x,rfl,s2,hf⟩ s3 rfl
  have s03:=s2.trans s3
  have hx:=List.getElem?_eq_getElem (l:=xs) (i:=i) hi
  obtain⟨d,hd,hru⟩:=Reps.get' hxs hx
  rw[zgm] at hd
  obtain⟨l,hl,rfl⟩:=zme.mp hd
  obtain⟨ua,hu,hua⟩:=zcf.mp (Rep.same s03 _ hru)
  obtain⟨l9,lsm⟩:=h9 l (zmg hl)
  nofun
  refine zaF (s03.seq (SqL.of hla)) (v:=.ref ua) (by rw[show (0:Int)+(i:Int)=((i:Nat):Int) by omega];exact zan (by rw[hx,hu])) ?_
  nofun
  refine zet l9 lsm hua (s03.seq hna) n8 λH4 s4=>?_
  nofun
  by_cases hb:zaV l ns<0
  ·rw[decide_eq_true hb]
   nofun
   have e:zav ls ns=some i:=by
    unfold zav
    rw[zhK hf hl,if_pos (decide_eq_true hb)]
   have:=q _ (s03.trans s4)
   rw[e] at this
   rw[show (0:Int)+(i:Int)=ffI (some i) by show (0:Int)+(i:Int)=(i:Int);omega]
   exact this
  ·rw[decide_eq_false hb]
   nofun
   exact⟨_,rfl,s03.trans s4,zdT hf hl (decide_eq_false hb)⟩
 ·rintro σ H2 ⟨x,rfl,s2,hf⟩
  nofun
  rw[←lx,List.take_of_length_le (Nat.le_refl _)] at hf
  have e:zav ls ns=none:=hf
  have:=q _ s2
  rw[e] at this
  exact this
inductive Qa0 (K:Fg) (vs:List V) (H:Hp) (Q:VK) (E:XK):Prop
 | mk (p ha aa:Addr) (f:Fm):vs=[.ref p]→H p=some (.lst [.int f.n,.int f.p,.ref ha,.ref aa])→H ha=some (.lst (f.hands.map V.int))→H aa=some (.lst (f.asked.map V.int))→f.hands.length=4→f.asked.length=2→(∀ na H',Same H H'→H' na=some (.lst ((lawN f).map V.int))→Q (.ref na) H')→Qa0 K vs H Q E
theorem zib {f:Addr}{fd:FuncData}(B:Bl K mg) {C:Nat→Addr}(Z:Zt K mg C)  (F:Fun K "_law_numbers" "_law_numbers" Q9f f fd) (m:mg "_law_numbers"=some (.ref f)):Fn P w K mg base "_law_numbers" ["frame"] 1 (Qa0 K):=by
 refine Fn.of (k:=0) F zhZ m (λ_ _ _ _ _ _ us hl=>match us,hl with | [_],_=>rfl) (λvs H Q E h=>?_) (λcdv A outer s H vs Q E hr h=>?_)
 ·first
  | (obtain⟨_,_,_,_,rfl,_⟩:=h;rfl)
 obtain⟨p,ha,aa,f,rfl,hp,hh,haa,l4,l2,q⟩:=h
 refine⟨_,(zag (zar (zaE (zaO K) (zaE (zaO K) (zao (k_ix K) (pv 0) zaa (λ_ _=>rfl)) (zao (k_ix K) (pv 0) zaa (λ_ _=>rfl))) (za3 (zaf zaa (zaf zaa zab)))))),?_⟩
 nofun
 refine zaF (SqL.of hp) (v:=.ref ha) (zan (j:=2) rfl) ?_
 nofun
 refine zaF (SqL.of hp) (v:=.ref aa) (zan (j:=3) rfl) ?_
 refine zb8 hh haa (zaC (by simp[l4,l2])) λp1 hp1=>?_
 have t1:=zah hp1 (.lst (f.hands.map V.int++f.asked.map V.int))
 nofun
 refine⟨(by walk_at "sm"),λp2 hp2=>?_⟩
 have t2:=zah hp2 (.lst [V.int 0,.int 0])
 refine zb8 (t2 _ _ zad) zad (zaC (by simp[l4,l2])) λp3 hp3=>?_
 refine q _ _ (t1.trans (t2.trans (zah hp3 _))) ?_
 rw[zad]
 unfold lawN
 rw[List.map_append,List.map_append]
 rfl
inductive Qa3 (K:Fg) (vs:List V) (H:Hp) (Q:VK) (E:XK):Prop
 | mk (da ra sk:Addr) (ks:List Int) (cr:Int→Cr) (fas:List Fa) (f:Fm) (st:List Fm) (ins:List Int) (lfp:List Addr):vs=[.ref da,.ref sk]→LawX H da ra sk ks cr fas (f::st) ins lfp→Wf ks cr (f::st)→(∀ v H' fas',zaq (ownL ra sk fas) H (ownL ra sk fas') H'→LawX H' da ra sk ks cr fas' (come cr f st).1 ins lfp→zdK H' (come cr f st).2 v→Q v H')→Qa3 K vs H Q E
theorem zoz:(List.replicate (4:Int).toNat [V.int 0]).flatten=([0,0,0,0]:List Int).map V.int:=rfl
theorem zkl {f:Addr}{fd:FuncData}(B:Bl K mg) {C:Nat→Addr}(Z:Zt K mg C) (Q9e:Fn P w K mg base "_law_first_false" ["lines","numbers"] 2 (Q9d K)) (Qa1:Fn P w K mg base "_law_numbers" ["frame"] 1 (Qa0 K)) (F:Fun K "_law_comes" "_law_comes" Qa2 f fd) (m:mg "_law_comes"=some (.ref f)):Fn P w K mg base "_law_comes" ["crafts","stack"] 3 (Qa3 K):=by
 refine Fn.of (k:=2) F zbj m (λ_ _ _ _ _ _ us hl=>match us,hl with | [_,_],_=>rfl) (λvs H Q E h=>?_) (λcdv A outer s H vs Q E hr h=>?_)
 ·first
  | (obtain⟨_,_,_,_,_,_,_,_,_,_,rfl,_⟩:=h;rfl)
 obtain⟨da,ra,sk,ks,cr,fas,f,st,ins,lfp,rfl,A',wfs,q⟩:=h
 refine⟨_,(zag (zgA PassesOwn.never (zb2 zfb) (zae (zcd (zao (k_ix K) (pv 1) (zcX zbM zaa) (λ_ _=>rfl)) (zoa K (n:=4) rfl (zb0 (zaK (i:=2) zbj.nd rfl (Or.inl rfl)) (zb0 (zaK (i:=3) zbj.nd rfl (Or.inl rfl)) (zb0 (zaK (i:=4) zbj.nd rfl (Or.inl rfl)) (zb0 (zaK (i:=5) zbj.nd rfl (Or.inl rfl)) zgz))))))
   (zae (zaA (i:=6) zbj.nd rfl (Or.inl rfl) (zcH (hr_u hr) (pv 0) (pv 2) (λ_ _=>rfl)))
   (zae (zaR (zau zlY (pv 3) (zaH (zdY K) rfl B.len L2.boot_len (zaw (zao (k_ix K) (pv 6) zaa (λ_ _=>rfl)) zab)) (zay _)) (zae (zaA (i:=7) zbj.nd rfl (Or.inl rfl) (zat Q9e hr rfl (zaw (zao (k_ix K) (zao (k_ix K) (pv 6) zaa (λ_ _=>rfl)) (pv 3) (λ_ _=>rfl)) (zaL (zat Qa1 hr rfl (zaw (zao (k_ix K) (pv 1) (zcX zbM zaa) (λ_ _=>rfl)) zab)) zab))))
   (zag (zar (zdz (zau zha (pv 7) zaa (zay _)) (zaZ (zaf zaJ (zaf zaJ (zac (pv 2) (zac (pv 3) (zac (pv 7) zab)))))) zcN)))) zax)
   (zae (zaA (i:=7) zbj.nd rfl (Or.inl rfl) (zat Q9e hr rfl (zaw (zao (k_ix K) (pv 6) zaa (λ_ _=>rfl)) (za6 (zaE (zaO K) (zaE (zaO K) (zaE zbm (za3 (zaf zaa zab)) zaa) (pv 5)) (zgC (k_sl K) (pv 4) zim (zin zaa))) zab))))
   (zae (zaR (zau zha (pv 7) zaa (zay _)) (zag (zar (zaZ (zaf zaJ (zaf zaJ (zac (pv 2) (zac (pv 3) (zac (pv 7) zab)))))))) zax)
   (zae (zaW (zm3 PySem.F.plainAttrs_list PySem.F.slot_list_pop PySem.F.type_list_pop zm4 (pv 1)))
   (zae (zaR (zau (k_eq K hr) (zaH (zdY K) rfl B.len L2.boot_len (zac (pv 1) zab)) zaa (zay _)) (zag (zar (zaZ (zaf zaJ (zaw (zao (k_ix K) (pv 4) zaa (λ_ _=>rfl)) (zaw (zao (k_ix K) (pv 4) zaa (λ_ _=>rfl)) zab)))))) zax)
   (zae (zaA (i:=8) zbj.nd rfl (Or.inl rfl) (zao (k_ix K) (pv 1) (zcX zbM zaa) (λ_ _=>rfl)))
   (zae (zaA (i:=9) zbj.nd rfl (Or.inl rfl) (zao (k_ix K) (zao (k_ix K) (zao (k_ix K) (zcH (hr_u hr) (pv 0) (zao (k_ix K) (pv 8) zaa (λ_ _=>rfl)) (λ_ _=>rfl)) zaa (λ_ _=>rfl)) (zao (k_ix K) (pv 8) zaa (λ_ _=>rfl)) (λ_ _=>rfl)) zaa (λ_ _=>rfl)))
   (zae (zcd (zao (k_ix K) (pv 4) zaa (λ_ _=>rfl)) (zck (zao (k_ix K) (pv 8) zaa (λ_ _=>rfl)) (zao (k_ix K) (pv 9) zaa (λ_ _=>rfl)) zbg))
   (zae (zcd (zao (k_ix K) (pv 4) zaa (λ_ _=>rfl)) (zck (zao (k_ix K) (pv 8) zaa (λ_ _=>rfl)) (zao (k_ix K) (pv 9) zaa (λ_ _=>rfl)) zbg))
   (zag (zcd (zaE (zaO K) (zao (k_ix K) (pv 8) zaa (λ_ _=>rfl)) zaa) (zck (pv 8) zaa zbg)))))))))))))))),?_⟩
 refine⟨(λm σ H2=>E11 λx2 x3 x4 x5 x6 x7 x8 x9 fas2 f2 st2=>A6 (σ=[some (.ref da),some (.ref sk),x2,x3,x4,x5,x6,x7,x8,x9]) (m=st2.length) (LawX H2 da ra sk ks cr fas2 (f2::st2) ins lfp) (Wf ks cr (f2::st2)) (come cr f2 st2=come cr f st) (zaq (ownL ra sk fas) H (ownL ra sk fas2) H2)),⟨_,none,none,none,none,none,none,none,none,fas,f,st,rfl,rfl,A',wfs,rfl,zaq.refl⟩,?_⟩
 rintro m σ H2 ⟨x2,x3,x4,x5,x6,x7,x8,x9,fas2,f2,st2,rfl,rfl,A2,w2,ec,m2⟩
 rw[←ec] at q
 nofun
 refine⟨(λσ H3=>E11 λx2 x3 x4 x5 x6 x7 x8 x9 fas3 f3 st3=>A6 (σ=[some (.ref da),some (.ref sk),x2,x3,x4,x5,x6,x7,x8,x9]) (st3.length<st2.length) (LawX H3 da ra sk ks cr fas3 (f3::st3) ins lfp) (Wf ks cr (f3::st3)) (come cr f3 st3=come cr f st) (zaq (ownL ra sk fas) H (ownL ra sk fas3) H3)),λσ' H' ⟨y2,y3,y4,y5,y6,y7,y8,y9,fas3,f3,st3,e,lt,z1,z2,z3,z4⟩=>⟨_,lt,y2,y3,y4,y5,y6,y7,y8,y9,fas3,f3,st3,e,rfl,z1,z2,z3,z4⟩,?_⟩
 have wf:=w2.1 f2 List.mem_cons_self
 have rt:=A2.rt f2.n wf.m
 have e4:=wf.h4
 have e2:=wf.a2
 cases fas2 with
 | nil=>exact A2.fr.elim
 | cons t fas2=>
 obtain⟨p,ha,aa⟩:=t
 obtain⟨f1,g2,g3,g4⟩:=A2.fr
 obtain⟨kvs,v,g,ed,ev,eg⟩:=A2.craft wf.m
 obtain⟨pa,y1,y2,b3,b4,dvs,nvs,rfl,hpa,hL1,hL2,h3,hD,h4,hN⟩:=zfB (K:=K) rt.nine.d9 eg
 have ld:=hD.1
 nofun
 walk_at "q"
 nofun
 refine zaF (SqL.of A2.sta) (v:=.ref p) zcD ?_
 refine⟨p,_,rfl,SqL.of f1,rfl,⟨_,_,rfl,?_⟩⟩
 refine⟨_,_,rfl,?_⟩
 refine⟨_,_,rfl,?_⟩
 refine⟨_,_,rfl,?_⟩
 refine⟨rfl,?_⟩
 nofun
 walk_at "q"
 nofun
 refine⟨da,.ref pa,rfl,by rw[←ev];exact DGet.k (k:=.inl f2.n) ed,?_⟩
 nofun
 walk_at "q"
 nofun
 refine zaF (SqL.of hpa) (v:=.ref b3) (zan (j:=2) rfl) ?_
 nofun
 refine zdX (.inl (SqL.of h3)) ?_
 nofun
 have hp0:=wf.p0
 by_cases hlt:f2.p<(dvs.length:Int)
 ·rw[decide_eq_true hlt]
  have ln:f2.p.toNat<(cr f2.n).notes.length:=by rw[rt.parts.2.2.2.1];omega
  have ln':f2.p.toNat<nvs.length:=by rw[←hN.1];exact ln
  obtain⟨la,hx,hL⟩:=hN.2 f2.p.toNat _ _ (List.getElem?_eq_getElem ln) (List.getElem?_eq_getElem ln')
  rw[zju (by rw[ld];omega)] at q
  nofun
  walk_at "q"
  nofun
  refine zaF (SqL.of hpa) (v:=.ref b4) (zan (j:=3) rfl) ?_
  nofun
  refine zaF (SqL.of h4) (v:=.ref la) (zft hp0 (by rw[List.getElem?_eq_getElem ln',hx])) ?_
  nofun
  refine zaF (SqL.of A2.sta) (v:=.ref p) zcD ?_
  nofun
  refine⟨p,ha,aa,f2,rfl,f1,g2,g3,e4,e2,λna H3 s3 hna=>?_⟩
  nofun
  refine i_ff (hL.same s3) (SqL.of hna) (zel wf) (rt.sm.2.2 _ (List.getElem_mem ln)) (by have:=rt.parts.2.2.2.2.1 _ (List.getElem_mem ln);omega) λH4 s4=>?_
  have s24:=s3.trans s4
  rw[zor wf rt (List.getElem_mem ln)]
  have en:(cr f2.n).notes.getD f2.p.toNat []=(cr f2.n).notes[f2.p.toNat]:=by rw[List.getD_eq_getElem?_getD,List.getElem?_eq_getElem ln];rfl
  unfold zch at q
  rw[en] at q
  nofun
  cases hb:zav (cr f2.n).notes[f2.p.toNat] (zbf f2) with
  | none=>
   rw[hb] at q
   unfold ffI
   rw[decide_eq_false (show ¬ (0:Int)≤-1 by decide)]
   nofun
   exact q _ _ _ (m2.trans (zaq.same s24)) (A2.same s24) rfl
  | some i=>
   rw[hb] at q
   unfold ffI
   rw[decide_eq_true (show (0:Int)≤((i:Nat):Int) by omega)]
   nofun
   refine⟨(by walk_at "sm"),λT hT=>?_⟩
   have t5:=zah hT (.tup (brk "notes" f2 i))
   exact q _ _ _ (m2.trans (zaq.same (s24.trans t5))) (A2.same (s24.trans t5)) ⟨T,rfl,zad⟩
 rw[decide_eq_false hlt]
 have hpe:f2.p=((cr f2.n).deeds.length:Int):=by have:=wf.pn;omega
 rw[zlv hpe] at q ec
 nofun
 walk_at "q"
 nofun
 refine zaF (SqL.of hpa) (v:=.ref y2) (zan (j:=1) rfl) ?_
 nofun
 refine⟨(by walk_at "sm"),λz1 hz1=>?_⟩
 have t1:=zah hz1 (.lst [V.int 0])
 nofun
 refine .inr ⟨z1,4,[.int 0],rfl,rfl,zad,by decide,by decide,by decide,λz2 hz2=>?_⟩
 rw[zoz]
 have t2:=t1.trans (zah hz2 (.lst (([0,0,0,0]:List Int).map V.int)))
 nofun
 refine zb8 zad (t2 _ _ g3) (zaC (by simp[e2])) λz3 hz3=>?_
 have t3:=t2.trans (zah hz3 (.lst (([0,0,0,0]:List Int).map V.int++f2.asked.map V.int)))
 nofun
 refine zpP (SqL.of (t3 _ _ g2)) λz4 hz4=>?_
 rw[zhI (by decide)]
 have t4:=t3.trans (zah hz4 (.lst ((f2.hands.map V.int).take (2:Int).toNat)))
 nofun
 refine zb8 (zah hz4 _ _ _ zad) zad (zaC (by simp[e4,e2])) λz5 hz5=>?_
 have t5:=t4.trans (zah hz5 (.lst (([0,0,0,0]:List Int).map V.int++f2.asked.map V.int++(f2.hands.map V.int).take (2:Int).toNat)))
 have en:([0,0,0,0]:List Int).map V.int++f2.asked.map V.int++(f2.hands.map V.int).take (2:Int).toNat=(zhP f2).map V.int:=by
  unfold zhP
  rw[List.map_append,List.map_append,List.map_take]
  rfl
 rw[en] at t5 ⊢
 have hz:(upd (upd (upd (upd (upd H2 z1 (.lst [V.int 0])) z2 (.lst (([0,0,0,0]:List Int).map V.int))) z3 (.lst (([0,0,0,0]:List Int).map V.int++f2.asked.map V.int))) z4 (.lst ((f2.hands.map V.int).take (2:Int).toNat))) z5 (.lst ((zhP f2).map V.int))) z5=some (.lst ((zhP f2).map V.int)):=zad
 generalize upd (upd (upd (upd (upd H2 z1 (.lst [V.int 0])) z2 (.lst (([0,0,0,0]:List Int).map V.int))) z3 (.lst (([0,0,0,0]:List Int).map V.int++f2.asked.map V.int))) z4 (.lst ((f2.hands.map V.int).take (2:Int).toNat))) z5 (.lst ((zhP f2).map V.int))=H3 at t5 hz ⊢
 clear t1 t2 t3 t4
 nofun
 refine i_ff (hL2.same t5) (SqL.of hz) (zlz wf) rt.sm.2.1 (by have:=rt.parts.2.1;omega) λH4 s4=>?_
 have s24:=t5.trans s4
 rw[zos wf rt]
 have A4:=A2.same s24
 have m4:=m2.trans (zaq.same (S:=ownL ra sk ((p,ha,aa)::fas2)) s24)
 nofun
 walk_at "q"
 nofun
 cases hb:zav (cr f2.n).leaves (zbf f2) with
 | some i=>
  rw[hb] at q
  unfold ffI
  rw[decide_eq_true (show (0:Int)≤((i:Nat):Int) by omega)]
  nofun
  refine⟨(by walk_at "sm"),λT hT=>?_⟩
  have t5:=zah hT (.tup (brk "leaves" f2 i))
  exact q _ _ _ (m4.trans (zaq.same t5)) (A4.same t5) ⟨T,rfl,zad⟩
 | none=>
 rw[hb] at q ec
 unfold ffI
 rw[decide_eq_false (show ¬ (0:Int)≤-1 by decide)]
 nofun
 walk_at "q"
 nofun
 refine⟨tyL A4.sta,?_⟩
 nofun
 refine zpX A4.sta zlx ?_
 rw[zlw]
 have A5:=A4.pop
 have ns:sk≠ha:=by
  have:=A4.ndr.2.2.1
  rw[zaz] at this
  simp only[List.mem_cons,not_or] at this
  exact this.2.1
 have k2:(upd H4 sk (.lst (fas2.reverse.map λt=>V.ref t.1))) ha=some (.lst (f2.hands.map V.int)):=by rw[zaj ns.symm];exact s24 _ _ g2
 have m5:zaq (ownL ra sk fas) H (ownL ra sk fas2) (upd H4 sk (.lst (fas2.reverse.map λt=>V.ref t.1))):=m4.trans ((zaq.upd zp5).trans (zaq.less zhQ))
 generalize upd H4 sk (.lst (fas2.reverse.map λt=>V.ref t.1))=H5 at *
 have fl:=A5.fr.len
 nofun
 walk_at "q"
 nofun
 refine zdX (.inl (SqL.of A5.sta)) ?_
 nofun
 rw[zlm,List.length_reverse,←fl]
 cases st2 with
 | nil=>
  rw[decide_eq_true (show (([]:List Fm).length:Int)=0 by rfl)]
  nofun
  refine zaF (SqL.of k2) (zcc (k:=0) (by decide) (by omega)) ?_
  nofun
  refine zaF (SqL.of k2) (zcc (k:=1) (by decide) (by omega)) ?_
  nofun
  refine⟨(by walk_at "sm"),λT hT=>?_⟩
  have t6:=zah hT (.tup (ziH f2))
  exact q _ _ _ (m5.trans (zaq.same t6)) (A5.same t6) ⟨T,rfl,zad⟩
 | cons g6 st2=>
 rw[decide_eq_false (show ¬ ((g6::st2).length:Int)=0 by rw[List.length_cons];omega)]
 cases fas2 with
 | nil=>exact A5.fr.elim
 | cons t6 fas2=>
 obtain⟨p6,ha6,aa6⟩:=t6
 obtain⟨u1,u2,u3,u4⟩:=A5.fr
 have wg:=w2.1 g6 (by simp)
 have rg:=A5.rt g6.n wg.m
 have hcg:=w2.2 g6 (by simp)
 have hltg:=hcg.lt
 obtain⟨mm,g0,g1',t0,t1,hd⟩:=hcg
 have hok:=rg.parts.2.2.2.2.2 _ (zmg hd)
 obtain⟨_,_,c0,c1,_⟩:=zdF hok
 have e46:=wg.h4
 obtain⟨kvs6,v6,g,ed6,ev6,eg6⟩:=A5.craft wg.m
 obtain⟨pa6,_,_,b36,_,dvs6,_,rfl,hpa6,_,_,h36,hD6,_,_⟩:=zfB (K:=K) rg.nine.d9 eg6
 have ld6:=hD6.1
 have hx6:=List.getElem?_eq_getElem (l:=dvs6) (i:=g6.p.toNat) (by omega)
 obtain⟨T,ys,hT,hT2,px⟩:=zaT (hD6.2 _ _ _ hd hx6)
 obtain⟨_,ys,rfl,_,px⟩:=zal px
 obtain⟨_,ys,rfl,_,px⟩:=zal px
 obtain⟨_,ys,rfl,_,px⟩:=zal px
 obtain⟨x3',ys,rfl,e3,px⟩:=zal px
 obtain⟨tk,rfl,htk⟩:=zeh e3
 nofun
 walk_at "q"
 nofun
 refine zaF (SqL.of A5.sta) (v:=.ref p6) zcD ?_
 nofun
 walk_at "q"
 nofun
 refine zaF (SqL.of u1) (v:=.int g6.n) zaB ?_
 nofun
 refine⟨da,.ref pa6,rfl,by rw[←ev6];exact DGet.k (k:=.inl g6.n) ed6,?_⟩
 nofun
 refine zaF (SqL.of hpa6) (v:=.ref b36) (zan (j:=2) rfl) ?_
 nofun
 refine zaF (SqL.of u1) (v:=.int g6.p) (zan (j:=1) rfl) ?_
 nofun
 refine zaF (SqL.of h36) (v:=.ref T) (zft wg.p0 (by rw[hx6,hT])) ?_
 nofun
 refine zaD (SqT.of hT2) (v:=.ref tk) (zan (j:=3) rfl) ?_
 nofun
 walk_at "q"
 nofun
 refine zaF (SqL.of k2) (zcc (k:=0) (by decide) (by omega)) ?_
 nofun
 refine zaF (SqL.of u1) (v:=.ref ha6) (zan (j:=2) rfl) ?_
 nofun
 refine zaD (SqT.of htk) (v:=.int t0) zaB ?_
 nofun
 refine zbw u2 (j:=t0.toNat) (zcn c0.1 (by rw[zlm];omega)) ?_
 rw[zcE]
 have A6:=A5.setH (xs:=g6.hands.set t0.toNat (f2.hands.getD (0:Int).toNat 0))
 obtain⟨w1,w2',w3,_⟩:=A6.fr
 have n6:ha6≠ha:=by
  have:=A4.ndr.2.2.2
  intro z
  rw[zaz,zaz,z] at this
  simp at this
 have k26:(upd H5 ha6 (.lst ((g6.hands.set t0.toNat (f2.hands.getD (0:Int).toNat 0)).map V.int))) ha=some (.lst (f2.hands.map V.int)):=by rw[zaj n6.symm];exact k2
 have tk6:=(zbC (o:=.lst ((g6.hands.set t0.toNat (f2.hands.getD (0:Int).toNat 0)).map V.int)) u2) _ _ htk
 have m6:zaq (ownL ra sk fas) H (ownL ra sk ((p6,ha6,aa6)::fas2)) (upd H5 ha6 (.lst ((g6.hands.set t0.toNat (f2.hands.getD (0:Int).toNat 0)).map V.int))):=m5.trans (zaq.upd zhR)
 generalize upd H5 ha6 (.lst ((g6.hands.set t0.toNat (f2.hands.getD (0:Int).toNat 0)).map V.int))=H6 at *
 nofun
 walk_at "q"
 nofun
 refine zaF (SqL.of k26) (zcc (k:=1) (by decide) (by omega)) ?_
 nofun
 refine zaF (SqL.of w1) (v:=.ref ha6) (zan (j:=2) rfl) ?_
 nofun
 refine zaD (SqT.of tk6) (v:=.int t1) (zan (j:=1) rfl) ?_
 nofun
 refine zbw w2' (j:=t1.toNat) (zcn c1.1 (by rw[zlm,List.length_set];omega)) ?_
 rw[zcE]
 have A7:=A6.setH (xs:=(g6.hands.set t0.toNat (f2.hands.getD (0:Int).toNat 0)).set t1.toNat (f2.hands.getD (1:Int).toNat 0))
 obtain⟨v1,_⟩:=A7.fr
 have m7:zaq (ownL ra sk fas) H (ownL ra sk ((p6,ha6,aa6)::fas2)) (upd H6 ha6 (.lst (((g6.hands.set t0.toNat (f2.hands.getD (0:Int).toNat 0)).set t1.toNat (f2.hands.getD (1:Int).toNat 0)).map V.int))):=m6.trans (zaq.upd zhR)
 generalize upd H6 ha6 (.lst (((g6.hands.set t0.toNat (f2.hands.getD (0:Int).toNat 0)).set t1.toNat (f2.hands.getD (1:Int).toNat 0)).map V.int))=H7 at *
 nofun
 refine zaF (SqL.of v1) (v:=.int g6.p) (zan (j:=1) rfl) ?_
 nofun
 refine zbw v1 (j:=1) (zcn (k:=1) (by decide) (by show (1:Int)<4;decide)) ?_
 have A8:=A7.setF (q:=g6.p+1)
 refine⟨_,_,_,_,_,_,_,_,_,zf1 cr g6 (f2.hands.getD 0 0) (f2.hands.getD 1 0),st2,rfl,by simp,?_,w2.take,ec,m7.trans (zaq.upd zfC)⟩
 unfold zf1 zgO
 rw[hd]
 exact A8
inductive Qa6 (K:Fg) (vs:List V) (H:Hp) (Q:VK) (E:XK):Prop
 | mk (da ra sk ga:Addr) (ks:List Int) (cr:Int→Cr) (fas:List Fa) (st:List Fm) (ins:List Int) (lfp:List Addr) (n a0 a1:Int):vs=[.ref da,.ref sk,.int n,.ref ga]→LawX H da ra sk ks cr fas st ins lfp→H ga=some (.lst [.int a0,.int a1])→Wf ks cr (zbq n a0 a1::st)→st.length<20→(∀ v H' fas',zaq (ownL ra sk fas) H (ownL ra sk fas') H'→LawX H' da ra sk ks cr fas' (come cr (zbq n a0 a1) st).1 ins lfp→zdK H' (come cr (zbq n a0 a1) st).2 v→Q v H')→Qa6 K vs H Q E
theorem zic {f:Addr}{fd:FuncData}(B:Bl K mg) {C:Nat→Addr}(Z:Zt K mg C) (Qa4:Fn P w K mg base "_law_comes" ["crafts","stack"] 3 (Qa3 K)) (F:Fun K "_law_entered" "_law_entered" Qa5 f fd) (m:mg "_law_entered"=some (.ref f)):Fn P w K mg base "_law_entered" ["crafts","stack","number","asked"] 4 (Qa6 K):=by
 refine Fn.of (k:=3) F zh0 m (λ_ _ _ _ _ _ us hl=>match us,hl with | [_,_,_,_],_=>rfl) (λvs H Q E h=>?_) (λcdv A outer s H vs Q E hr h=>?_)
 ·first
  | (obtain⟨_,_,_,_,_,_,_,_,_,_,_,_,_,rfl,_⟩:=h;rfl)
 obtain⟨da,ra,sk,ga,ks,cr,fas,st,ins,lfp,n,a0,a1,rfl,A',hga,wfs,l20,q⟩:=h
 refine⟨_,(zae (zaW (zjP PySem.F.plainAttrs_list PySem.F.slot_list_append PySem.F.type_list_append zdh (pv 1) (zeM (za3 (zac (pv 2) (zaf zaa (za6 (zaE (zaO K) (pv 3) (za3 (zaf zaa (zaf zaa zab)))) (zaL (zcl (zhr K) rfl B.list L2.zb4 (zac (pv 3) zab)) zab))))) zab)))
   (zag (zar (zat Qa4 hr rfl (zac (pv 0) (zac (pv 1) zab)))))),?_⟩
 have fl:=A'.fr.len
 nofun
 walk_at "q"
 nofun
 refine⟨tyL A'.sta,?_⟩
 nofun
 refine⟨(by walk_at "sm"),λz1 hz1=>?_⟩
 have t1:=zah hz1 (.lst [V.int 0,.int 0])
 nofun
 refine zb8 (t1 _ _ hga) zad ((by walk_at "sm")) λz2 hz2=>?_
 have t2:=t1.trans (zah hz2 (.lst ([V.int a0,.int a1]++[V.int 0,.int 0])))
 have h2:(upd (upd H z1 (.lst [V.int 0,.int 0])) z2 (.lst ([V.int a0,.int a1]++[V.int 0,.int 0]))) z2=some (.lst [.int a0,.int a1,.int 0,.int 0]):=zad
 have f2:=t1.free hz2
 generalize upd (upd H z1 (.lst [V.int 0,.int 0])) z2 (.lst ([V.int a0,.int a1]++[V.int 0,.int 0]))=H2 at *
 nofun
 refine zeb (.inl (SqL.of (t2 _ _ hga))) λz3 hz3=>?_
 have t3:=zah hz3 (.lst [V.int a0,.int a1])
 have n23:z2≠z3:=zam h2 hz3
 nofun
 refine⟨(by walk_at "sm"),λz4 hz4=>?_⟩
 have t4:=zah hz4 (.lst [V.int n,.int 0,.ref z2,.ref z3])
 have h3:(upd H2 z3 (.lst [V.int a0,.int a1])) z3=some (.lst [V.int a0,.int a1]):=zad
 have s04:=t2.trans (t3.trans t4)
 have A5:=A'.push (f:=zbq n a0 a1) (p:=z4) (ha:=z2) (aa:=z3) s04 (t2.free (t3.free hz4)) f2 (t2.free hz3) (zam (t3 _ _ h2) hz4).symm (zam h3 hz4).symm n23 zad (t4 _ _ (t3 _ _ h2)) (t4 _ _ h3)
 have m5:zaq (ownL ra sk fas) H (ownL ra sk ((z4,z2,z3)::fas)) (upd (upd (upd H2 z3 (.lst [V.int a0,.int a1])) z4 (.lst [V.int n,.int 0,.ref z2,.ref z3])) sk (.lst ((fas.reverse.map λt=>V.ref t.1)++[.ref z4]))):=zaq.pushL s04 (t2.free (t3.free hz4)) f2 (t2.free hz3)
 nofun
 refine zmp (s04 _ _ A'.sta) (zb3 (by rw[zlm,List.length_reverse];omega)) ?_
 generalize upd (upd (upd H2 z3 (.lst [V.int a0,.int a1])) z4 (.lst [V.int n,.int 0,.ref z2,.ref z3])) sk (.lst ((fas.reverse.map λt=>V.ref t.1)++[.ref z4]))=H5 at *
 nofun
 refine⟨da,ra,sk,ks,cr,_,zbq n a0 a1,st,ins,lfp,rfl,A5,wfs,λv H6 fas6 m6 A6 e6=>?_⟩
 exact q v H6 fas6 (m5.trans m6) A6 e6
inductive Qb2 (K:Fg) (C:Nat→Addr) (vs:List V) (H:Hp) (Q:VK) (E:XK):Prop
 | mk (ha la va gt:Addr) (n a0 a1 kind:Int) (ks:List Int) (cr:Int→Cr) (ws:List Int) (fp:List Addr):vs=[.ref ha,.int n,.ref gt,.int kind]→HAt (C 8) (C 7) H ha la va ks cr ws fp→(SqL K H gt [.int a0,.int a1]∨SqT K H gt [.int a0,.int a1])→n.natAbs<zb9→(n∉ks∧kind=0∨n∈ks∧kind=1∧zav (cr n).needs (zcB a0 a1)≠none)→(∀ H',Same H H'→Q (.bl true) H')→Qb2 K C vs H Q E
theorem zoA {C:Addr}{sp:Sp}{t:TA}{E:XK}{σ:L2.St}{H:Hp}{Q:VK}(h:t σ H λvs H1=>∀ y dx,H1 y=none→H1 dx=none→dx≠y→sp (.ref y::vs) (upd (upd H1 dx (.own y)) y (.ins C dx [])) (λv H2=>v=.non∧Q (.ref y) H2) E):zhb C sp [] E t σ H Q:=by
 have e:(λ(vs:List V) (H1:Hp)=>∀ y dx,H1 y=none→H1 dx=none→dx≠y→sp (.ref y::(vs++[])) (upd (upd H1 dx (.own y)) y (.ins C dx [])) (λv H2=>v=.non∧Q (.ref y) H2) E)
   = λvs H1=>∀ y dx,H1 y=none→H1 dx=none→dx≠y→sp (.ref y::vs) (upd (upd H1 dx (.own y)) y (.ins C dx [])) (λv H2=>v=.non∧Q (.ref y) H2) E:=by funext vs H1;rw[List.append_nil]
 show t σ H λvs H1=>∀ y dx,H1 y=none→H1 dx=none→dx≠y→sp (.ref y::(vs++[])) (upd (upd H1 dx (.own y)) y (.ins C dx [])) (λv H2=>v=.non∧Q (.ref y) H2) E
 rw[e];exact h
theorem zeI {H:Hp}{y dx c:Addr}(hy:H y=none) (hd:H dx=none):Same H (upd (upd H dx (.own y)) y (.ins c dx [])):=λb o e=>by
 rw[zaj (zam e hy),zaj (zam e hd)];exact e
theorem made2 {H H4:Hp}{y dx c:Addr}{own:List Addr}(hy:H y=none) (hd:H dx=none) (m:zaq [y] (upd (upd H dx (.own y)) y (.ins c dx [])) own H4):Same H H4∧∀ b∈own,H b=none:=by
 have sm:=zeI (c:=c) hy hd
 refine⟨λb o e=>m.1 b o (λz=>by rw[zms.mp z,hy] at e;cases e) (sm b o e),λb hb=>?_⟩
 rcases m.2.1 b hb with z | z
 ·rw[zms.mp z];exact hy
 ·exact sm.free z
theorem zid {f:Addr}{fd:FuncData}(B:Bl K mg) {C:Nat→Addr}(Z:Zt K mg C) (M_Run:Mkx P w K mg base "Run" (C 6) ["self","hall","number","given","inputs"] 8 (Qb K C)) (F:Fun K "_law_refused" "_law_refused" Qb1 f fd) (m:mg "_law_refused"=some (.ref f)):Fn P w K mg base "_law_refused" ["hall","number","given","kind"] 10 (Qb2 K C):=by
 refine Fn.of (k:=9) F zdy m (λ_ _ _ _ _ _ us hl=>match us,hl with | [_,_,_,_],_=>rfl) (λvs H Q E h=>?_) (λcdv A outer s H vs Q E hr h=>?_)
 ·first
  | (obtain⟨_,_,_,_,_,_,_,_,_,_,_,_,rfl,_⟩:=h;rfl)
 obtain⟨ha,la,va,gt,n,a0,a1,kind,ks,cr,ws,fp,rfl,hA,hg,hn,hk,q⟩:=h
 refine⟨_,(zae (zpM rfl rfl rfl (zmv (zmu (zpJ M_Run hr rfl (zac (pv 0) (zac (pv 1) (zac (pv 2) (zeM (za3 zab) zab))))))) (zpL (i:=4) (tb:=λc a=>tRet (zlT (tOp rEq (tVar 3) (tC (.int 1))) (tCB (rIsy K a c) (zdf (tVar 4) (zdf (tC (.ref (C 0))) tNil))))) Z.e_Unfit rfl Z.m_Unfit zdy.nd rfl rfl (λ_ _ hd hn=>(zag (zar (zbu (zbD zny (pv 3) zaa (zay _)) (zbV (zaH (zpY hd hn K) rfl B.isinstance L2.zaS (zac (pv 4) (zac (zcI rfl Z.m_HallError) zab)))))))) (zpL (i:=4) (tb:=λc a=>tRet (zlT (tOp rEq (tVar 3) (tC (.int 0))) (tCB (rIsy K a c) (zdf (tVar 4) (zdf (tC (.ref (C 0))) tNil))))) Z.e_NoCraft rfl Z.m_NoCraft zdy.nd rfl rfl (λ_ _ hd hn=>(zag (zar (zbu (zbD zny (pv 3) zaa (zay _)) (zbV (zaH (zpY hd hn K) rfl B.isinstance L2.zaS (zac (pv 4) (zac (zcI rfl Z.m_HallError) zab)))))))) zpK)))
   (zag (zar zfb))),?_⟩
 walk_at "q"
 refine i_try ?_
 nofun
 refine zoA ?_
 nofun
 refine⟨(by walk_at "sm"),λza hza=>?_⟩
 have s1:=zah hza (.lst [])
 have hz:(upd H za (.lst [])) za=some (.lst (([]:List Int).map V.int)):=zad
 generalize upd H za (.lst [])=H1 at *
 nofun
 intro y dx y0 dx0 nd
 have sm:=zeI (c:=(C 6)) y0 dx0
 have s2:=s1.trans sm
 refine⟨y,dx,ha,la,va,gt,za,n,a0,a1,ks,cr,ws,fp,[],rfl,zad,hA.same s2,hg.elim (λz=>.inl (s2.seq z)) (λz=>.inr (s2.tup z)),SqL.of (sm _ _ hz),hn,λz H' o' a=>?_,λz w H' o' a=>?_,λz w=>?_⟩
 ·have kz:kind=0:=by
   rcases hk with w | w
   ·exact w.2
   ·exact absurd w.1 z
  subst kz
  have s':Same H H':=λb o e=>o' b o (λw=>by rw[zms.mp w,s1.free y0] at e;cases e) (s2 b o e)
  refine⟨(C 2),_,rfl,Z.e_NoCraft,?_⟩
  rw[if_neg (by
   have n1:=Z.ne_NoCraft_Unfit
   have n2:=Z.ne_HallError_Unfit
   simp[n1,n2,Ne.symm n1,Ne.symm n2,zba])]
  refine⟨(C 2),_,rfl,Z.e_NoCraft,?_⟩
  rw[if_pos (by simp)]
  show tRet _ _ _ _
  nofun
  refine⟨rfl,true,by rw[decide_eq_true rfl],?_⟩
  nofun
  exact⟨(C 2),(C 0),_,_,rfl,rfl,Z.e_NoCraft,Z.e_HallError,by simp,q _ s'⟩
 ·have kz:kind=1:=by
   rcases hk with y | y
   ·exact absurd z y.1
   ·exact y.2.1
  subst kz
  have s':Same H H':=λb o e=>o' b o (λw=>by rw[zms.mp w,s1.free y0] at e;cases e) (s2 b o e)
  refine⟨(C 4),_,rfl,Z.e_Unfit,?_⟩
  rw[if_pos (by simp)]
  show tRet _ _ _ _
  nofun
  refine⟨rfl,true,by rw[decide_eq_true rfl],?_⟩
  nofun
  exact⟨(C 4),(C 0),_,_,rfl,rfl,Z.e_Unfit,Z.e_HallError,by simp,q _ s'⟩
 ·rcases hk with y | y
  ·exact absurd z y.1
  ·exact absurd w y.2.2
inductive Qae (K:Fg) (vs:List V) (H:Hp) (Q:VK) (E:XK):Prop
 | mk (a b:Addr) (xs:List V):vs=[.ref a,.ref b]→H a=some (.tup xs)→H b=some (.tup xs)→xs.all zmH=true→xs.length≤5→(∀ H',Same H H'→Q (.bl true) H')→Qae K vs H Q E
theorem zie {K:Fg} : PySem.W.kitOne K (.type "str") (.type "bool")=some false:=by rfl
theorem zfW {K:Fg} : PySem.W.kitOne K (.type "str") (.type "int")=some false:=by rfl
theorem zoB (xs:List V):deps (xs.map vD)≤1:=by
 induction xs with
 | nil=>unfold List.map deps;omega
 | cons x xs ih=>
  rw[zmc]
  unfold deps
  have:dep (vD x)≤1:=by cases x <;> (unfold vD dep;omega)
  omega
theorem zkm {f:Addr}{fd:FuncData}(B:Bl K mg) {C:Nat→Addr}(Z:Zt K mg C)  (F:Fun K "_law_alike" "_law_alike" Qad f fd) (m:mg "_law_alike"=some (.ref f)):Fn P w K mg base "_law_alike" ["found","due"] 1 (Qae K):=by
 refine Fn.of (k:=0) F zeD m (λ_ _ _ _ _ _ us hl=>match us,hl with | [_,_],_=>rfl) (λvs H Q E h=>?_) (λcdv A outer s H vs Q E hr h=>?_)
 ·first
  | (obtain⟨_,_,_,rfl,_⟩:=h;rfl)
 obtain⟨a,b,xs,rfl,hA,hB,hf,hl,q⟩:=h
 refine⟨_,(zae (zaR (PW.pt (zkt (zc9 (zb2 (zaH (zhs K) rfl B.isinstance L2.zaS (zac (pv 0) (zac (zde (v:=.ty "tuple") rfl B.tuple L2.zgo rfl) zab))))) (zg6 (zau (k_ne K hr) (zaH (zdY K) rfl B.len L2.boot_len (zac (pv 0) zab)) (zaH (zdY K) rfl B.len L2.boot_len (zac (pv 1) zab)) (zay _))))) (zag (zar zfb)) zax)
   (zae (zdM PassesOwn.never rfl (zou rfl B.zip (zac (pv 0) (zac (pv 1) zab))) (zlc K (n:=2) rfl (zb0 (zaK (i:=2) zeD.nd rfl (Or.inl rfl)) (zb0 (zaK (i:=3) zeD.nd rfl (Or.inl rfl)) zgz))) (zag (zaR (PW.pt (zkt (zb2 (zaH (zhs K) rfl B.isinstance L2.zaS (zac (pv 2) (zac (zde (v:=.ty "bool") rfl B.bool L2.zhu rfl) zab)))) (zg6 (zau (k_ne K hr) (zaH (zhs K) rfl B.isinstance L2.zaS (zac (pv 2) (zac (zde (v:=.ty "int") rfl B.int L2.zgK rfl) zab))) (zaH (zhs K) rfl B.isinstance L2.zaS (zac (pv 3) (zac (zde (v:=.ty "int") rfl B.int L2.zgK rfl) zab))) (zay _))))) (zag (zar zfb)) zax)))
   (zag (zar (zbD (k_eq K hr) (pv 0) (pv 1) (zay _)))))),?_⟩
 with_reducible refine znh (λQ2 q2=>?_) ?_
 ·nofun
  refine zea (.tup hA) zdD ?_
  nofun
  refine zdX (.inr (SqT.of hA)) ?_
  nofun
  refine zdX (.inr (SqT.of hB)) ?_
  nofun
  rw[decide_eq_true rfl]
  nofun
  exact q2
 walk_at "q"
 nofun
 refine L2.zqa ?_
 nofun
 refine⟨a,b,rfl,⟨_,hA⟩,⟨_,hB⟩,?_⟩
 refine zfp (zlH hA hB rfl) (λi σ H2=>∃ x y,σ=[some (.ref a),some (.ref b),x,y]∧Same H H2) ⟨none,none,rfl,Same.refl _⟩ (λi σ H2 ⟨_,_,_,e⟩=>e) ?_ ?_
 ·rintro i v σ H2 H3 hi ⟨x,y,rfl,s2⟩ s3 ⟨T,u,z,rfl,hT,eu,ez⟩
  rw[eu] at ez
  cases ez
  have fu:=List.all_eq_true.mp hf u (zmg eu)
  refine⟨T,_,rfl,SqT.of hT,rfl,⟨_,_,rfl,?_⟩⟩
  refine⟨_,_,rfl,?_⟩
  refine⟨rfl,?_⟩
  cases u with
  | int k=>
   nofun
   refine zea (.int _) zeL ?_
   nofun
   refine zea (.int _) zdD ?_
   nofun
   refine zea (.int _) zdD ?_
   nofun
   rw[decide_eq_true rfl]
   nofun
   exact⟨_,_,rfl,s2.trans s3⟩
  | str k=>
   nofun
   refine zea (.str _) zie ?_
   nofun
   refine zea (.str _) zfW ?_
   nofun
   refine zea (.str _) zfW ?_
   nofun
   rw[decide_eq_true rfl]
   nofun
   exact⟨_,_,rfl,s2.trans s3⟩
  | _=>cases fu
 ·rintro σ H2 ⟨x,y,rfl,s2⟩
  nofun
  have r1:Rep K H2 (.tup (xs.map vD)) (.ref a):=by unfold Rep;exact⟨a,xs,rfl,SqT.of (s2 _ _ hA),zfE hf⟩
  have r2:Rep K H2 (.tup (xs.map vD)) (.ref b):=by unfold Rep;exact⟨b,xs,rfl,SqT.of (s2 _ _ hB),zfE hf⟩
  refine zlf r1 r2 ?_ ?_
  ·have:=zoB xs
   unfold dep;omega
  ·exact q _ s2
def zeJ (K:Fg):Sp:=λvs H Q _=>∃ i:Int,vs=[.int i]∧Q (.bl true) H
theorem zoC {H:Hp}{Q:VK}{E:XK}{i:Int}(q:Q (.bl true) H):zeJ K [.int i] H Q E:=⟨i,rfl,q⟩
theorem zkn {f:Addr}{fd:FuncData}(B:Bl K mg) {C:Nat→Addr}(Z:Zt K mg C)  (F:Fun K "_law_whole" "_law_whole" Q99 f fd) (m:mg "_law_whole"=some (.ref f)):Fn P w K mg base "_law_whole" ["found"] 1 (zeJ K):=by
 refine Fn.of (k:=0) F zkg m (λ_ _ _ _ _ _ us hl=>match us,hl with | [_],_=>rfl) (λvs H Q E h=>?_) (λcdv A outer s H vs Q E hr h=>?_)
 ·first
  | (obtain⟨_,rfl,_⟩:=h;rfl)
 obtain⟨i,rfl,q⟩:=h
 refine⟨_,(zag (zar (zbu (zaH (zhs K) rfl B.isinstance L2.zaS (zac (pv 0) (zac (zde (v:=.ty "int") rfl B.int L2.zgK rfl) zab))) (zbV (zoM (zaH (zhs K) rfl B.isinstance L2.zaS (zac (pv 0) (zac (zde (v:=.ty "bool") rfl B.bool L2.zhu rfl) zab)))))))),?_⟩
 ac_rfl
 refine zea (.int i) zdD ?_
 ac_rfl
 refine zea (b:=false) (.int i) zeL ?_
 exact⟨false,rfl,q⟩
inductive Qb0 (K:Fg) (C:Nat→Addr) (vs:List V) (H:Hp) (Q:VK) (E:XK):Prop
 | mk (r ka ia sa:Addr) (nn:List Int) (fasR:List Fa) (kfp:List Addr) (da ra sk:Addr) (ks:List Int) (fasL:List Fa) (lfp:List Addr) (cr:Int→Cr) (s:Rs) (ev:V):vs=[.ref r,ev,.ref sk,.int s.k]→RunX (C 6) (C 5) (C 7) H r ka ia sa nn cr fasR s kfp→LawX H da ra sk ks cr fasL s.st s.ins lfp→s.st.length≤20→(∀ H',Same H H'→Q (.bl true) H')→Qb0 K C vs H Q E
theorem znr {α:Type}{xs:List α}{i:Nat}{x:α}(e:xs.reverse[i]?=some x):xs[xs.length - 1 - i]?=some x∧i<xs.length:=by
 have hi:i<xs.length:=by have:=(zge.mp e).1;rwa [List.length_reverse] at this
 rw[List.getElem?_reverse hi] at e
 exact⟨e,hi⟩
theorem zjC (st:List Fm):dep (.lst (st.map fmD))≤60:=by
 have h:∀ st:List Fm,deps (st.map fmD)≤3:=λst=>by
  induction st with
  | nil=>unfold List.map deps;omega
  | cons f st ih=>
   rw[zmc]
   unfold deps
   have:dep (fmD f)≤3:=by unfold fmD;simp[dep,deps]
   omega
 unfold dep
 have:=h st
 omega
theorem zqd {H H1:Hp}{t:Addr}{f:Fm}(ht:H1 t=none):New H (upd H1 t (.tup [.int f.n,.int f.p])) (fmD f) (.ref t):=
 New.tup (fp:=[]) (zak.cint (zak.cint zak.nil)) (by simp) (λb m=>by cases m) zad
theorem zlN {f:Addr}{fd:FuncData}(B:Bl K mg) {C:Nat→Addr}(Z:Zt K mg C) (Q13:Mth CX0 P w K mg base (C 6) "frames" ["self"] 1 (Q12 K C)) (G_l_whole:Fn P w K mg base "_law_whole" ["found"] 1 (zeJ K)) (Q10:Mth CX0 P w K mg base (C 6) "steps" ["self"] 1 (Qf K C)) (F:Fun K "_law_same" "_law_same" Qaf f fd) (m:mg "_law_same"=some (.ref f)):Fn P w K mg base "_law_same" ["run","ending","stack","made"] 2 (Qb0 K C):=by
 refine Fn.of (k:=1) F zfO m (λ_ _ _ _ _ _ us hl=>match us,hl with | [_,_,_,_],_=>rfl) (λvs H Q E h=>?_) (λcdv A outer s H vs Q E hr h=>?_)
 ·first
  | (obtain⟨_,_,_,_,_,_,_,_,_,_,_,_,_,_,_,_,rfl,_⟩:=h;rfl)
 obtain⟨r,ka,ia,sa,nn,fasR,kfp,da,ra,sk,ks,fasL,lfp,cr,s',ev,rfl,R1,L1,l20,q⟩:=h
 refine⟨_,(zae (zaR (PW.pt (zkt (zc9 (zb2 (zat G_l_whole hr rfl (zaL (zby Q10 Z.c_Run hr za5 (pv 0)) zab)))) (zg6 (zau (k_ne K hr) (zby Q10 Z.c_Run hr za5 (pv 0)) (pv 3) (zay _))))) (zag (zar zfb)) zax)
   (zae (zcP (i:=4) zfO.nd rfl rfl rfl (COk.m (sc0:=zai Qaf) (N:=["run","ending","stack","made","due","found"]) (N':=["run","ending","stack","made","due","found","frame"]) (ms:=[false,false,false,false,false,false,true])) (zbO K (pv 2)) (λ_ _ _ _ _=>(zaK (i:=6) (ndS (N:=["run","ending","stack","made","due","found","frame"])) rfl (Or.inl rfl))) (λ_ _ _ _ _=>za0) (λ_ _ _ _ _=>(zaZ (zaw (zao (k_ix K) (pv 6) zaa (λ_ _=>rfl)) (zaw (zao (k_ix K) (pv 6) zaa (λ_ _=>rfl)) zab)))))
   (zae (zaA (i:=5) zfO.nd rfl (Or.inl rfl) (zby Q13 Z.c_Run hr za5 (pv 0)))
   (zae (zaR (PW.pt (zkt (zc9 (zb2 (zaH (zhs K) rfl B.isinstance L2.zaS (zac (pv 5) (zac (zde (v:=.ty "list") rfl B.list L2.zb4 rfl) zab))))) (zg6 (zau (k_ne K hr) (pv 5) (pv 4) (zay _))))) (zag (zar zfb)) zax)
   (zae (zaW (zjP PySem.F.plainAttrs_list PySem.F.slot_list_append PySem.F.type_list_append zdh (pv 5) (zhC (zaZ (zaf zaa (zaf zaa zab))) zab)))
   (zag (zar (zbD (k_eq K hr) (zby Q13 Z.c_Run hr za5 (pv 0)) (pv 4) (zay _))))))))),?_⟩
 obtain⟨dr,evr,hr',_⟩:=R1.ins
 have ls:=L1.fr.len
 nofun
 walk_at "q"
 nofun
 refine⟨r,dr,_,rfl,hr',zbH (by decide +kernel),?_⟩
 nofun
 refine⟨r,ka,ia,sa,nn,cr,fasR,s',kfp,rfl,R1,?_⟩
 nofun
 refine zoC ?_
 nofun
 refine⟨r,dr,_,rfl,hr',zbH (by decide +kernel),?_⟩
 nofun
 refine⟨r,ka,ia,sa,nn,cr,fasR,s',kfp,rfl,R1,?_⟩
 nofun
 rw[decide_eq_true rfl]
 nofun
 walk_at "q"
 nofun
 refine⟨sk,rfl,⟨_,SqL.of L1.sta⟩,?_⟩
 refine za8 (zbh (SqL.of L1.sta)) (s'.st.reverse.map fmD) (by simp[ls]) (zaC (by simp;omega)) (λj x d H5 R hj hd s5 hx hR=>?_) (λv5 H5 s5 n5=>?_)
 ·rw[zgm] at hd hx
  obtain⟨f,hf,rfl⟩:=zme.mp hd
  obtain⟨t,ht,rfl⟩:=zme.mp hx
  obtain⟨hf1,_⟩:=znr hf
  obtain⟨ht1,_⟩:=znr ht
  rw[←ls] at ht1
  have hp:=s5 _ _ (L1.fr.at _ f t hf1 ht1)
  nofun
  refine zaF (SqL.of hp) (v:=.int f.n) zaB ?_
  nofun
  refine zaF (SqL.of hp) (v:=.int f.p) (zan (j:=1) rfl) ?_
  nofun
  refine⟨(by walk_at "sm"),λt9 ht9=>?_⟩
  exact hR _ _ (zah ht9 _) (zqd ht9)
 nofun
 walk_at "q"
 nofun
 refine⟨r,dr,_,rfl,s5 _ _ hr',zbH (by decide +kernel),?_⟩
 nofun
 refine⟨r,ka,ia,sa,nn,cr,fasR,s',kfp,rfl,R1.same s5,l20,λv6 H6 s6 n6=>?_⟩
 obtain⟨va5,_,_,rfl,_⟩:=New.lso n5
 obtain⟨va6,ys6,_,rfl,v60,hv6,_⟩:=New.lso n6
 nofun
 walk_at "q"
 nofun
 refine zea (.lst hv6) zdD ?_
 nofun
 have n5':=n5.same s6
 have rp5:=n5'.rep (K:=K)
 refine zlg (d:=.lst (s'.st.reverse.map fmD)) n6.rep rp5 (zjC _) ?_
 nofun
 walk_at "q"
 nofun
 refine⟨tyL hv6,?_⟩
 nofun
 refine⟨(by walk_at "sm"),λt7 ht7=>?_⟩
 have s7:=zah ht7 (.tup [V.int 0,.int 0])
 have l6:ys6.length≤20:=by
  obtain⟨fp,h1,_⟩:=n6
  obtain⟨a,vs,r2,e,h2,h3⟩:=RepF.lso h1
  cases e
  rw[hv6] at h2
  cases h2
  have:=h3.length
  rw[zlm,List.length_reverse] at this
  omega
 nofun
 refine zmp (s7 _ _ hv6) (zb3 (by omega)) ?_
 have s8:Same H5 (upd (upd H6 t7 (.tup [V.int 0,.int 0])) va6 (.lst (ys6++[.ref t7]))):=(s6.trans s7).put v60
 generalize upd (upd H6 t7 (.tup [V.int 0,.int 0])) va6 (.lst (ys6++[.ref t7]))=H8 at *
 nofun
 refine⟨r,dr,_,rfl,(s5.trans s8) _ _ hr',zbH (by decide +kernel),?_⟩
 nofun
 refine⟨r,ka,ia,sa,nn,cr,fasR,s',kfp,rfl,R1.same (s5.trans s8),l20,λv9 H9 s9 n9=>?_⟩
 obtain⟨va9,_,_,rfl,_⟩:=New.lso n9
 nofun
 refine zlf (d:=.lst (s'.st.reverse.map fmD)) n9.rep (n5.same (s8.trans s9)).rep (zjC _) ?_
 exact q _ (s5.trans (s8.trans s9))
inductive Qa9 (K:Fg) (vs:List V) (H:Hp) (Q:VK) (E:XK):Prop
 | mk (da ra sk T gv:Addr) (ks:List Int) (cr:Int→Cr) (fas:List Fa) (f:Fm) (st:List Fm) (s:Rs) (lfp:List Addr) (m g0 g1:Int) (x:V):vs=[.ref da,.ref sk,.ref T]→LawX H da ra sk ks cr fas (f::st) s.ins lfp→s.st=f::st→H T=some (.tup [.str "call",.int m,.ref gv,x])→H gv=some (.tup [.int g0,.int g1])→(0≤g0∧g0≤3)→(0≤g1∧g1≤3)→Wf ks cr (f::st)→zfy cr f→st.length<100→(∀ v H' fas',zaq (ownL ra sk fas) H (ownL ra sk fas') H'→LawX H' da ra sk ks cr fas' (zhM cr ks s f st m (f.hands.getD g0.toNat 0) (f.hands.getD g1.toNat 0)).st s.ins lfp→zdK H' (zhM cr ks s f st m (f.hands.getD g0.toNat 0) (f.hands.getD g1.toNat 0)).en v→Q v H')→Qa9 K vs H Q E
theorem zlO {a0 a1:Int} : ([0,0,0,0]:List Int).map V.int++[V.int a0,.int a1]++[V.int 0,.int 0]=(zcB a0 a1).map V.int:=rfl
theorem zi3 {f:Addr}{fd:FuncData}(B:Bl K mg) {C:Nat→Addr}(Z:Zt K mg C) (Q9e:Fn P w K mg base "_law_first_false" ["lines","numbers"] 2 (Q9d K)) (Qa7:Fn P w K mg base "_law_entered" ["crafts","stack","number","asked"] 4 (Qa6 K)) (F:Fun K "_law_called" "_law_called" Qa8 f fd) (m:mg "_law_called"=some (.ref f)):Fn P w K mg base "_law_called" ["crafts","stack","deed"] 5 (Qa9 K):=by
 refine Fn.of (k:=4) F zc6 m (λ_ _ _ _ _ _ us hl=>match us,hl with | [_,_,_],_=>rfl) (λvs H Q E h=>?_) (λcdv A outer s H vs Q E hr h=>?_)
 ·first
  | (obtain⟨_,_,_,_,_,_,_,_,_,_,_,_,_,_,_,_,rfl,_⟩:=h;rfl)
 obtain⟨da,ra,sk,T,gv,ks,cr,fas,f,st,s',lfp,m,g0,g1,x,rfl,A',hst,hT,hgv,b0,b1,wfs,hc,l100,q⟩:=h
 refine⟨_,(zae (zaR (zg5 (zfh (hr_u hr) (zao (k_ix K) (pv 2) zaa (λ_ _=>rfl)) (pv 0))) (zag (zar (zaZ (zaf zaJ zab)))) zax)
   (zae (zaR (zau zha (zaH (zdY K) rfl B.len L2.boot_len (zac (pv 1) zab)) zaa (zay _)) (zag (zar (zaZ (zaf zaJ zab)))) zax)
   (zae (zaA (i:=3) zc6.nd rfl (Or.inl rfl) (zao (k_ix K) (pv 1) (zcX zbM zaa) (λ_ _=>rfl)))
   (zae (zaA (i:=4) zc6.nd rfl (Or.inl rfl) (za3 (zaw (zao (k_ix K) (zao (k_ix K) (pv 3) zaa (λ_ _=>rfl)) (zao (k_ix K) (zao (k_ix K) (pv 2) zaa (λ_ _=>rfl)) zaa (λ_ _=>rfl)) (λ_ _=>rfl)) (zaw (zao (k_ix K) (zao (k_ix K) (pv 3) zaa (λ_ _=>rfl)) (zao (k_ix K) (zao (k_ix K) (pv 2) zaa (λ_ _=>rfl)) zaa (λ_ _=>rfl)) (λ_ _=>rfl)) zab))))
   (zae (zaA (i:=5) zc6.nd rfl (Or.inl rfl) (zat Q9e hr rfl (zaw (zao (k_ix K) (zcH (hr_u hr) (pv 0) (zao (k_ix K) (pv 2) zaa (λ_ _=>rfl)) (λ_ _=>rfl)) zaa (λ_ _=>rfl)) (za6 (zaE (zaO K) (zaE (zaO K) (zaE zbm (za3 (zaf zaa zab)) zaa) (pv 4)) (za3 (zaf zaa (zaf zaa zab)))) zab))))
   (zae (zaR (zau zha (pv 5) zaa (zay _)) (zag (zar (zaZ (zaf zaJ (zaf zaJ (zaw (zao (k_ix K) (pv 3) zaa (λ_ _=>rfl)) (zaw (zao (k_ix K) (pv 3) zaa (λ_ _=>rfl)) (zac (pv 5) zab)))))))) zax)
   (zag (zar (zat Qa7 hr rfl (zac (pv 0) (zac (pv 1) (zaw (zao (k_ix K) (pv 2) zaa (λ_ _=>rfl)) (zac (pv 4) zab))))))))))))),?_⟩
 have wf:=wfs.1 f List.mem_cons_self
 have e4:=wf.h4
 have fl:=A'.fr.len
 rw[List.length_cons] at fl
 unfold zhM at q
 nofun
 walk_at "q"
 nofun
 refine zaD (SqT.of hT) (v:=.int m) (zan (j:=1) rfl) ?_
 nofun
 by_cases hm:m∈ks
 ·rw[if_neg (λz=>z hm)] at q
  obtain⟨kvs,v,g,e1,e2,eg⟩:=A'.craft hm
  refine⟨da,some v,rfl,by rw[←e2];exact DGet.k (k:=.inl m) e1,?_⟩
  dsimp only[Option.isSome]
  nofun
  walk_at "q"
  nofun
  refine zdX (.inl (SqL.of A'.sta)) ?_
  nofun
  rw[zlm,List.length_reverse,←fl]
  by_cases h20:20≤(f::st).length
  ·rw[if_pos h20] at q
   rw[List.length_cons] at h20
   rw[decide_eq_true (show (20:Int)≤((st.length+1:Nat):Int) by omega)]
   nofun
   refine⟨(by walk_at "sm"),λT hT=>?_⟩
   have t5:=zah hT (.tup [V.str "deep"])
   exact q _ _ fas (zaq.same t5) (by show LawX _ da ra sk ks cr fas s'.st s'.ins lfp;rw[hst];exact A'.same t5) ⟨T,rfl,zad⟩
  ·rw[if_neg h20] at q
   rw[List.length_cons] at h20
   rw[decide_eq_false (show ¬ (20:Int)≤((st.length+1:Nat):Int) by omega)]
   have rtm:=A'.rt m hm
   obtain⟨pa,y1,y2,b3,b4,dvs,nvs,rfl,hpa,hL,_⟩:=zfB (K:=K) rtm.nine.d9 eg
   cases fas with
   | nil=>exact A'.fr.elim
   | cons t fas=>
   obtain⟨p,ha,aa⟩:=t
   obtain⟨f1,f2,f3,f4⟩:=A'.fr
   nofun
   walk_at "q"
   nofun
   refine zaF (SqL.of A'.sta) (v:=.ref p) zcD ?_
   nofun
   walk_at "q"
   nofun
   refine zaF (SqL.of f1) (v:=.ref ha) (zan (j:=2) rfl) ?_
   nofun
   refine zaD (SqT.of hT) (v:=.ref gv) (zan (j:=2) rfl) ?_
   nofun
   refine zaD (SqT.of hgv) (v:=.int g0) zaB ?_
   nofun
   refine zaF (SqL.of f2) (zcc b0.1 (by omega)) ?_
   nofun
   refine zaF (SqL.of f1) (v:=.ref ha) (zan (j:=2) rfl) ?_
   nofun
   refine zaD (SqT.of hT) (v:=.ref gv) (zan (j:=2) rfl) ?_
   nofun
   refine zaD (SqT.of hgv) (v:=.int g1) (zan (j:=1) rfl) ?_
   nofun
   refine zaF (SqL.of f2) (zcc b1.1 (by omega)) ?_
   nofun
   generalize f.hands.getD g0.toNat 0=a0 at *
   generalize f.hands.getD g1.toNat 0=a1 at *
   refine⟨(by walk_at "sm"),λga hga=>?_⟩
   have t1:=zah hga (.lst [V.int a0,.int a1])
   have h1:(upd H ga (.lst [V.int a0,.int a1])) ga=some (.lst [V.int a0,.int a1]):=zad
   generalize upd H ga (.lst [V.int a0,.int a1])=H1 at *
   nofun
   walk_at "q"
   nofun
   refine zaD (SqT.of (t1 _ _ hT)) (v:=.int m) (zan (j:=1) rfl) ?_
   nofun
   refine⟨da,.ref pa,rfl,by rw[←e2];exact DGet.k (k:=.inl m) (t1 _ _ e1),?_⟩
   nofun
   refine zaF (SqL.of (t1 _ _ hpa)) (v:=.ref y1) zaB ?_
   nofun
   refine⟨(by walk_at "sm"),λz1 hz1=>?_⟩
   have r1:=zah hz1 (.lst [V.int 0])
   nofun
   refine .inr ⟨z1,4,[.int 0],rfl,rfl,zad,by decide,by decide,by decide,λz2 hz2=>?_⟩
   rw[zoz]
   have r2:=r1.trans (zah hz2 (.lst (([0,0,0,0]:List Int).map V.int)))
   nofun
   refine zb8 zad (r2 _ _ h1) ((by walk_at "sm")) λz3 hz3=>?_
   have r3:=r2.trans (zah hz3 (.lst (([0,0,0,0]:List Int).map V.int++[V.int a0,.int a1])))
   nofun
   refine⟨(by walk_at "sm"),λz4 hz4=>?_⟩
   have r4:=zah hz4 (.lst [V.int 0,.int 0])
   refine zb8 (r4 _ _ zad) zad ((by walk_at "sm")) λz5 hz5=>?_
   rw[zlO]
   have r5:=r3.trans (r4.trans (zah hz5 (.lst ((zcB a0 a1).map V.int))))
   nofun
   have s05:=t1.trans r5
   refine i_ff (hL.same s05) (SqL.of zad) rfl rtm.sm.1 (by have:=rtm.parts.1;omega) λH6 s6=>?_
   have s16:=r5.trans s6
   have s06:=t1.trans s16
   clear r1 r2 r3 r4 r5 hz1 hz2 hz3 hz4 hz5 s05 s6
   have A6:=A'.same s06
   nofun
   walk_at "q"
   nofun
   cases hb:zav (cr m).needs (zcB a0 a1) with
   | some i=>
    rw[hb] at q
    unfold ffI
    rw[decide_eq_true (show (0:Int)≤((i:Nat):Int) by omega)]
    nofun
    refine zaF (SqL.of (s06 _ _ f1)) (v:=.int f.n) zaB ?_
    nofun
    refine zaF (SqL.of (s06 _ _ f1)) (v:=.int f.p) (zan (j:=1) rfl) ?_
    nofun
    refine⟨(by walk_at "sm"),λT hT=>?_⟩
    have t5:=zah hT (.tup (brk "needs" f i))
    exact q _ _ _ (zaq.same (s06.trans t5)) (by show LawX _ da ra sk ks cr _ s'.st s'.ins lfp;rw[hst];exact A6.same t5) ⟨T,rfl,zad⟩
   | none=>
    rw[hb] at q
    unfold ffI
    rw[decide_eq_false (show ¬ (0:Int)≤-1 by decide)]
    nofun
    refine zaD (SqT.of (s06 _ _ hT)) (v:=.int m) (zan (j:=1) rfl) ?_
    nofun
    refine⟨da,ra,sk,ga,ks,cr,_,f::st,s'.ins,lfp,m,a0,a1,rfl,A6,s16 _ _ h1,⟨λk hk=>?_,λk hk=>?_⟩,by rw[List.length_cons];omega,λv H7 fas7 m7 A7 e7=>?_⟩
    ·rcases List.mem_cons.mp hk with rfl | hk
     ·exact⟨hm,by show (0:Int)≤0;omega,by show (0:Int)≤_;omega,rfl,rfl⟩
     ·exact wfs.1 k hk
    ·rw[List.tail_cons] at hk
     rcases List.mem_cons.mp hk with rfl | hk
     ·exact hc
     ·exact wfs.2 k hk
    ·exact q v H7 fas7 ((zaq.same s06).trans m7) A7 e7
 ·rw[if_pos hm] at q
  obtain⟨kvs,e1,e2⟩:=A'.no hm
  refine⟨da,none,rfl,by rw[←e2];exact DGet.k (k:=.inl m) e1,?_⟩
  dsimp only[Option.isSome]
  nofun
  refine⟨(by walk_at "sm"),λT hT=>?_⟩
  have t5:=zah hT (.tup [V.str "lost"])
  exact q _ _ fas (zaq.same t5) (by show LawX _ da ra sk ks cr fas s'.st s'.ins lfp;rw[hst];exact A'.same t5) ⟨T,rfl,zad⟩
inductive Qab (K:Fg) (vs:List V) (H:Hp) (Q:VK) (E:XK):Prop
 | mk (da ra sk:Addr) (ks:List Int) (cr:Int→Cr) (fas:List Fa) (s:Rs) (lfp:List Addr):vs=[.ref da,.ref sk,.ref ra]→LawX H da ra sk ks cr fas s.st s.ins lfp→WfR ks cr s→s.en=none→s.st.length≤20→(∀ v H' fas',zaq (ownL ra sk fas) H (ownL ra sk fas') H'→LawX H' da ra sk ks cr fas' (zci cr ks s).st (zci cr ks s).ins lfp→zdK H' (zci cr ks s).en v→Q v H')→Qab K vs H Q E
theorem zjD:decide (("set" : Str) ="call")=false∧decide (("set" : Str) ="draw")=false∧decide (("set" : Str) ="turn")=false∧decide (("set" : Str) ="hold")=false:=by decide +kernel
theorem zfX:decide (("part" : Str) ="call")=false∧decide (("part" : Str) ="draw")=false∧decide (("part" : Str) ="turn")=false∧decide (("part" : Str) ="hold")=false∧decide (("part" : Str) ="set")=false:=by decide +kernel
theorem zoD:decide (("draw" : Str) ="call")=false:=by decide +kernel
theorem zlP:decide (("turn" : Str) ="call")=false∧decide (("turn" : Str) ="draw")=false:=by decide +kernel
theorem zi4:decide (("hold" : Str) ="call")=false∧decide (("hold" : Str) ="draw")=false∧decide (("hold" : Str) ="turn")=false:=by decide +kernel
theorem zlQ {cr:Int→Cr}{ks:List Int}{s:Rs}{f:Fm}{st:List Fm}{m a0 a1:Int} : (zhM cr ks s f st m a0 a1).ins=s.ins:=by
 unfold zhM
 split
 ·rfl
 ·split
  ·rfl
  ·split
   ·rfl
   ·rfl
theorem zif {l ns:List Int} : zav [l] ns=if zaV l ns<0 then some 0 else none:=by
 unfold zav
 rw[List.findIdx?_cons]
 by_cases h:zaV l ns<0
 ·rw[if_pos h,if_pos (decide_eq_true h)]
 ·rw[if_neg h,if_neg (by simpa using h)];rfl
theorem zig {f:Addr}{fd:FuncData}(B:Bl K mg) {C:Nat→Addr}(Z:Zt K mg C) (Qa4:Fn P w K mg base "_law_comes" ["crafts","stack"] 3 (Qa3 K)) (G_l_called:Fn P w K mg base "_law_called" ["crafts","stack","deed"] 5 (Qa9 K)) (Q9b:Fn P w K mg base "_law_worth" ["line","numbers"] 1 (zdJ K)) (Qa1:Fn P w K mg base "_law_numbers" ["frame"] 1 (Qa0 K)) (F:Fun K "_law_stepped" "_law_stepped" Qaa f fd) (m:mg "_law_stepped"=some (.ref f)):Fn P w K mg base "_law_stepped" ["crafts","stack","rest"] 6 (Qab K):=by
 refine Fn.of (k:=5) F zbL m (λ_ _ _ _ _ _ us hl=>match us,hl with | [_,_,_],_=>rfl) (λvs H Q E h=>?_) (λcdv A outer s H vs Q E hr h=>?_)
 ·first
  | (obtain⟨_,_,_,_,_,_,_,_,rfl,_⟩:=h;rfl)
 obtain⟨da,ra,sk,ks,cr,fas,s',lfp,rfl,A',hW,hen,l20,q⟩:=h
 refine⟨_,(zae (zaA (i:=3) zbL.nd rfl (Or.inl rfl) (zao (k_ix K) (pv 1) (zcX zbM zaa) (λ_ _=>rfl)))
   (zae (zaA (i:=4) zbL.nd rfl (Or.inl rfl) (zao (k_ix K) (zao (k_ix K) (zcH (hr_u hr) (pv 0) (zao (k_ix K) (pv 3) zaa (λ_ _=>rfl)) (λ_ _=>rfl)) zaa (λ_ _=>rfl)) (zao (k_ix K) (pv 3) zaa (λ_ _=>rfl)) (λ_ _=>rfl)))
   (zae (zaR (zau (k_eq K hr) (zao (k_ix K) (pv 4) zaa (λ_ _=>rfl)) zaJ (zay _)) (zag (zar (zat G_l_called hr rfl (zac (pv 0) (zac (pv 1) (zac (pv 4) zab)))))) zax)
   (zae (zaA (i:=5) zbL.nd rfl (Or.inl rfl) (zaE (zaO K) (zao (k_ix K) (pv 3) zaa (λ_ _=>rfl)) zaa))
   (zae (zaR (zau (k_eq K hr) (zao (k_ix K) (pv 4) zaa (λ_ _=>rfl)) zaJ (zay _)) (zae (zaR (zau (k_eq K hr) (zaH (zdY K) rfl B.len L2.boot_len (zac (pv 2) zab)) zaa (zay _)) (zag (zar (zaZ (zaf zaJ zab)))) zax)
   (zae (zaA (i:=6) zbL.nd rfl (Or.inl rfl) (zjP PySem.F.plainAttrs_list PySem.F.slot_list_pop PySem.F.type_list_pop zi9 (pv 2) (zaf zaa zab)))
   (zae (zaR (zc9 (zi5 zg9 zg9 (zao (k_ix K) (pv 4) zaa (λ_ _=>rfl)) (pv 6) (zao (k_ix K) (pv 4) zaa (λ_ _=>rfl)))) (zag (zar (zaZ (zaf zaJ zab)))) zax)
   (zag (zcd (pv 6) (zck (zao (k_ix K) (pv 3) zaa (λ_ _=>rfl)) (zao (k_ix K) (pv 4) zaa (λ_ _=>rfl)) zbg)))))) (zag (zaR (zau (k_eq K hr) (zao (k_ix K) (pv 4) zaa (λ_ _=>rfl)) zaJ (zay _)) (zag (zaR (zau zha (zat Q9b hr rfl (zaw (zao (k_ix K) (pv 4) zaa (λ_ _=>rfl)) (zaL (zat Qa1 hr rfl (zac (pv 3) zab)) zab))) zaa (zay _)) (zag (zaA (i:=5) zbL.nd rfl (Or.inl rfl) (zao (k_ix K) (pv 4) zaa (λ_ _=>rfl)))) zax)) (zag (zaR (zau (k_eq K hr) (zao (k_ix K) (pv 4) zaa (λ_ _=>rfl)) zaJ (zay _)) (zag (zaR (zau zlY (zat Q9b hr rfl (zaw (zao (k_ix K) (pv 4) zaa (λ_ _=>rfl)) (zaL (zat Qa1 hr rfl (zac (pv 3) zab)) zab))) zaa (zay _)) (zag (zar (zaZ (zaf zaJ (zaf zaJ (zaw (zao (k_ix K) (pv 3) zaa (λ_ _=>rfl)) (zaw (zao (k_ix K) (pv 3) zaa (λ_ _=>rfl)) (zaf zaa zab)))))))) zax)) (zag (zaR (zau (k_eq K hr) (zao (k_ix K) (pv 4) zaa (λ_ _=>rfl)) zaJ (zay _)) (zag (zcd (zat Q9b hr rfl (zaw (zao (k_ix K) (pv 4) zaa (λ_ _=>rfl)) (zaL (zat Qa1 hr rfl (zac (pv 3) zab)) zab))) (zck (zao (k_ix K) (pv 3) zaa (λ_ _=>rfl)) (zao (k_ix K) (pv 4) zaa (λ_ _=>rfl)) zbg))) (zag (zcd (zaE zcY (zat Q9b hr rfl (zaw (zao (k_ix K) (pv 4) zaa (λ_ _=>rfl)) (zaL (zat Qa1 hr rfl (zac (pv 3) zab)) zab))) (zao (k_ix K) (pv 4) zaa (λ_ _=>rfl))) (zck (zao (k_ix K) (pv 3) zaa (λ_ _=>rfl)) (zao (k_ix K) (pv 4) zaa (λ_ _=>rfl)) zbg))))))))))
   (zae (zcd (pv 5) (zck (pv 3) zaa zbg))
   (zag (zar (zat Qa4 hr rfl (zac (pv 0) (zac (pv 1) zab))))))))))),?_⟩
 obtain⟨f,st,hst,hp⟩:=hW.on hen
 have wfs:=hW.w
 rw[hst] at wfs l20 A'
 rw[List.length_cons] at l20
 have wf:=wfs.1 f List.mem_cons_self
 have e4:=wf.h4
 have rt:=A'.rt f.n wf.m
 cases fas with
 | nil=>exact A'.fr.elim
 | cons t fas=>
 obtain⟨p,ha,aa⟩:=t
 obtain⟨f1,f2,f3,f4⟩:=A'.fr
 have hp0:=wf.p0
 have hlt:f.p.toNat<(cr f.n).deeds.length:=by omega
 have hd:zdP (cr f.n) f.p=some (cr f.n).deeds[f.p.toNat]:=List.getElem?_eq_getElem hlt
 have hok:=rt.parts.2.2.2.2.2 _ (List.getElem_mem hlt)
 have h9:=rt.nine.d9 _ (List.getElem_mem hlt)
 rw[zjv hst hd] at q
 obtain⟨kvs,v,g,ed,ev,eg⟩:=A'.craft wf.m
 obtain⟨pa,y1,y2,b3,b4,dvs,nvs,rfl,hpa,_,_,h3,hD,_⟩:=zfB (K:=K) rt.nine.d9 eg
 have ld:=hD.1
 have hx:=List.getElem?_eq_getElem (l:=dvs) (i:=f.p.toNat) (by omega)
 have hdr:=hD.2 _ _ _ hd hx
 have hat:=hd
 generalize (cr f.n).deeds[f.p.toNat]=d at *
 generalize dvs[f.p.toNat]=x at *
 nofun
 walk_at "q"
 nofun
 refine zaF (SqL.of A'.sta) (v:=.ref p) zcD ?_
 nofun
 walk_at "q"
 nofun
 refine zaF (SqL.of f1) (v:=.int f.n) zaB ?_
 nofun
 refine⟨da,.ref pa,rfl,by rw[←ev];exact DGet.k (k:=.inl f.n) ed,?_⟩
 nofun
 refine zaF (SqL.of hpa) (v:=.ref b3) (zan (j:=2) rfl) ?_
 nofun
 refine zaF (SqL.of f1) (v:=.int f.p) (zan (j:=1) rfl) ?_
 nofun
 refine zaF (SqL.of h3) (v:=x) (zft hp0 hx) ?_
 cases d with
 | set hh l=>
  obtain⟨T,ys,rfl,hT,px⟩:=zaT hdr
  obtain⟨x0,ys,rfl,e0,px⟩:=zal px
  obtain⟨x1,ys,rfl,e1,px⟩:=zal px
  obtain⟨x2,ys,rfl,e2,px⟩:=zal px
  cases zbi px
  cases zbc e0
  cases za4 e1
  obtain⟨la,rfl,hla⟩:=zb6 e2
  simp only[zaY,zbp,btw,Bool.and_eq_true,decide_eq_true_eq] at hok
  obtain⟨hh1,hl⟩:=hok
  nofun
  walk_at "q"
  nofun
  refine zaD (SqT.of hT) (v:=.str "set") zaB ?_
  nofun
  rw[zjD.1]
  nofun
  walk_at "q"
  nofun
  refine zaF (SqL.of f1) (v:=.int f.p) (zan (j:=1) rfl) ?_
  nofun
  walk_at "q"
  nofun
  refine zaD (SqT.of hT) (v:=.str "set") zaB ?_
  nofun
  rw[zjD.2.1]
  nofun
  refine zaD (SqT.of hT) (v:=.str "set") zaB ?_
  nofun
  rw[zjD.2.2.1]
  nofun
  refine zaD (SqT.of hT) (v:=.str "set") zaB ?_
  nofun
  rw[zjD.2.2.2]
  nofun
  refine zaD (SqT.of hT) (v:=.str "set") zaB ?_
  nofun
  rw[decide_eq_true rfl]
  nofun
  refine zaD (SqT.of hT) (v:=.ref la) (zan (j:=2) rfl) ?_
  nofun
  refine⟨p,ha,aa,f,rfl,f1,f2,f3,wf.h4,wf.a2,λna H2 s2 hna=>?_⟩
  nofun
  refine zet h9 (zfw hl) (SqL.of (s2 _ _ hla)) (SqL.of hna) (zel wf) λH3 s3=>?_
  have s23:=s2.trans s3
  rw[zek wf h9 hl]
  nofun
  have A3:=A'.same s23
  have m3:zaq (ownL ra sk ((p,ha,aa)::fas)) H (ownL ra sk ((p,ha,aa)::fas)) H3:=zaq.same s23
  refine zaF (SqL.of (s23 _ _ f1)) (v:=.ref ha) (zan (j:=2) rfl) ?_
  nofun
  refine zaD (SqT.of (s23 _ _ hT)) (v:=.int hh) (zan (j:=1) rfl) ?_
  nofun
  refine zbw (s23 _ _ f2) (j:=hh.toNat) (zcn hh1.1 (by rw[zlm];omega)) ?_
  rw[zcE]
  have A4:=A3.setH (xs:=f.hands.set hh.toNat (zaV l (zbf f)))
  have m4:zaq (ownL ra sk ((p,ha,aa)::fas)) H (ownL ra sk ((p,ha,aa)::fas)) (upd H3 ha (.lst ((f.hands.set hh.toNat (zaV l (zbf f))).map V.int))):=m3.trans (zaq.upd zhR)
  generalize upd H3 ha (.lst ((f.hands.set hh.toNat (zaV l (zbf f))).map V.int))=H4 at *
  obtain⟨k1,_⟩:=A4.fr
  nofun
  walk_at "q"
  nofun
  refine zbw k1 (j:=1) (zcn (k:=1) (by decide) (by show (1:Int)<4;decide)) ?_
  have A5:=A4.setF (q:=f.p+1)
  nofun
  refine⟨da,ra,sk,ks,cr,_,{f with hands:=f.hands.set hh.toNat (zaV l (zbf f)),p:=f.p+1},st,_,lfp,rfl,A5,wfs.top ⟨wf.m,by show 0≤f.p+1;omega,by show f.p+1≤((cr f.n).deeds.length:Int);omega,by show (f.hands.set hh.toNat (zaV l (zbf f))).length=4;rw[List.length_set];exact wf.h4,wf.a2⟩,λv H6 fas6 m6 A6 e6=>?_⟩
  exact q v H6 fas6 (m4.trans ((zaq.upd zfC).trans m6)) A6 e6
 | part hh l b=>
  obtain⟨T,ys,rfl,hT,px⟩:=zaT hdr
  obtain⟨x0,ys,rfl,e0,px⟩:=zal px
  obtain⟨x1,ys,rfl,e1,px⟩:=zal px
  obtain⟨x2,ys,rfl,e2,px⟩:=zal px
  obtain⟨x3,ys,rfl,e3,px⟩:=zal px
  cases zbi px
  cases zbc e0
  cases za4 e1
  obtain⟨la,rfl,hla⟩:=zb6 e2
  cases za4 e3
  simp only[zaY,zbp,btw,Bool.and_eq_true,decide_eq_true_eq] at hok
  obtain⟨hh1,hl,hb⟩:=hok
  nofun
  walk_at "q"
  nofun
  refine zaD (SqT.of hT) (v:=.str "part") zaB ?_
  nofun
  rw[zfX.1]
  nofun
  walk_at "q"
  nofun
  refine zaF (SqL.of f1) (v:=.int f.p) (zan (j:=1) rfl) ?_
  nofun
  walk_at "q"
  nofun
  refine zaD (SqT.of hT) (v:=.str "part") zaB ?_
  nofun
  rw[zfX.2.1]
  nofun
  refine zaD (SqT.of hT) (v:=.str "part") zaB ?_
  nofun
  rw[zfX.2.2.1]
  nofun
  refine zaD (SqT.of hT) (v:=.str "part") zaB ?_
  nofun
  rw[zfX.2.2.2.1]
  nofun
  refine zaD (SqT.of hT) (v:=.str "part") zaB ?_
  nofun
  rw[zfX.2.2.2.2]
  nofun
  refine zaD (SqT.of hT) (v:=.ref la) (zan (j:=2) rfl) ?_
  nofun
  refine⟨p,ha,aa,f,rfl,f1,f2,f3,wf.h4,wf.a2,λna H2 s2 hna=>?_⟩
  nofun
  refine zet h9 (zfw hl) (SqL.of (s2 _ _ hla)) (SqL.of hna) (zel wf) λH3 s3=>?_
  have s23:=s2.trans s3
  rw[zek wf h9 hl]
  nofun
  refine zaD (SqT.of (s23 _ _ hT)) (v:=.int b) (zan (j:=3) rfl) ?_
  nofun
  have A3:=A'.same s23
  have m3:zaq (ownL ra sk ((p,ha,aa)::fas)) H (ownL ra sk ((p,ha,aa)::fas)) H3:=zaq.same s23
  refine zaF (SqL.of (s23 _ _ f1)) (v:=.ref ha) (zan (j:=2) rfl) ?_
  nofun
  refine zaD (SqT.of (s23 _ _ hT)) (v:=.int hh) (zan (j:=1) rfl) ?_
  nofun
  refine zbw (s23 _ _ f2) (j:=hh.toNat) (zcn hh1.1 (by rw[zlm];omega)) ?_
  rw[zcE]
  have A4:=A3.setH (xs:=f.hands.set hh.toNat (zaV l (zbf f) / b))
  have m4:zaq (ownL ra sk ((p,ha,aa)::fas)) H (ownL ra sk ((p,ha,aa)::fas)) (upd H3 ha (.lst ((f.hands.set hh.toNat (zaV l (zbf f) / b)).map V.int))):=m3.trans (zaq.upd zhR)
  generalize upd H3 ha (.lst ((f.hands.set hh.toNat (zaV l (zbf f) / b)).map V.int))=H4 at *
  obtain⟨k1,_⟩:=A4.fr
  nofun
  walk_at "q"
  nofun
  refine zbw k1 (j:=1) (zcn (k:=1) (by decide) (by show (1:Int)<4;decide)) ?_
  have A5:=A4.setF (q:=f.p+1)
  nofun
  refine⟨da,ra,sk,ks,cr,_,{f with hands:=f.hands.set hh.toNat (zaV l (zbf f) / b),p:=f.p+1},st,_,lfp,rfl,A5,wfs.top ⟨wf.m,by show 0≤f.p+1;omega,by show f.p+1≤((cr f.n).deeds.length:Int);omega,by show (f.hands.set hh.toNat (zaV l (zbf f) / b)).length=4;rw[List.length_set];exact wf.h4,wf.a2⟩,λv H6 fas6 m6 A6 e6=>?_⟩
  exact q v H6 fas6 (m4.trans ((zaq.upd zfC).trans m6)) A6 e6
 | draw hh lo hi=>
  obtain⟨T,ys,rfl,hT,px⟩:=zaT hdr
  obtain⟨x0,ys,rfl,e0,px⟩:=zal px
  obtain⟨x1,ys,rfl,e1,px⟩:=zal px
  obtain⟨x2,ys,rfl,e2,px⟩:=zal px
  obtain⟨x3,ys,rfl,e3,px⟩:=zal px
  cases zbi px
  cases zbc e0
  cases za4 e1
  cases za4 e2
  cases za4 e3
  simp only[zaY,zbp,btw,Bool.and_eq_true,decide_eq_true_eq] at hok
  have hh1:=hok.1
  unfold zcv at q
  nofun
  walk_at "q"
  nofun
  refine zaD (SqT.of hT) (v:=.str "draw") zaB ?_
  nofun
  rw[zoD]
  nofun
  walk_at "q"
  nofun
  refine zaF (SqL.of f1) (v:=.int f.p) (zan (j:=1) rfl) ?_
  nofun
  walk_at "q"
  nofun
  refine zaD (SqT.of hT) (v:=.str "draw") zaB ?_
  nofun
  rw[decide_eq_true rfl]
  nofun
  walk_at "q"
  nofun
  refine zdX (.inl (SqL.of A'.inp)) ?_
  nofun
  cases hin:s'.ins with
  | nil=>
   rw[hin] at q
   dsimp only at q
   rw[decide_eq_true (show ((([]:List Int).map V.int).length:Int)=0 from rfl)]
   nofun
   refine⟨(by walk_at "sm"),λT hT=>?_⟩
   have t5:=zah hT (.tup [V.str "dry"])
   exact q _ _ _ (zaq.same t5) (by show LawX _ da ra sk ks cr _ s'.st _ lfp;rw[hst];have:=A'.same t5;rw[hin] at this;exact this) ⟨T,rfl,zad⟩
  | cons x rs=>
  rw[hin] at q A'
  dsimp only at q
  have inp:=A'.inp
  rw[zmc] at inp
  rw[decide_eq_false (show ¬ ((((x::rs):List Int).map V.int).length:Int)=0 by simp;omega)]
  nofun
  walk_at "q"
  nofun
  refine⟨tyL inp,?_⟩
  nofun
  refine znn inp ?_
  have A3:=A'.setIn (xs:=rs)
  have m3:zaq (ownL ra sk ((p,ha,aa)::fas)) H (ownL ra sk ((p,ha,aa)::fas)) (upd H ra (.lst (rs.map V.int))):=zaq.upd zp6
  have hT:=zbC (o:=.lst (rs.map V.int)) inp _ _ hT
  generalize upd H ra (.lst (rs.map V.int))=H3 at *
  obtain⟨f1,f2,f3,f4⟩:=A3.fr
  have bad:¬ (lo≤x∧x≤hi)→∀ T,H3 T=none→Q (.ref T) (upd H3 T (.tup [V.str "stray"])):=λnb T hT=>by
   rw[if_neg nb] at q
   have t5:=zah hT (.tup [V.str "stray"])
   exact q _ _ _ (m3.trans (zaq.same t5)) (by show LawX _ da ra sk ks cr _ s'.st _ lfp;rw[hst];exact A3.same t5) ⟨T,rfl,zad⟩
  nofun
  walk_at "q"
  nofun
  refine zaD (SqT.of hT) (v:=.int lo) (zan (j:=2) rfl) ?_
  nofun
  by_cases h1:lo≤x
  ·rw[decide_eq_true h1]
   nofun
   refine zaD (SqT.of hT) (v:=.int hi) (zan (j:=3) rfl) ?_
   nofun
   by_cases h2:x≤hi
   ·rw[decide_eq_true h2]
    rw[if_pos ⟨h1,h2⟩] at q
    nofun
    refine zaF (SqL.of f1) (v:=.ref ha) (zan (j:=2) rfl) ?_
    nofun
    refine zaD (SqT.of hT) (v:=.int hh) (zan (j:=1) rfl) ?_
    nofun
    refine zbw f2 (j:=hh.toNat) (zcn hh1.1 (by rw[zlm];omega)) ?_
    rw[zcE]
    have A4:=A3.setH (xs:=f.hands.set hh.toNat (x))
    have m4:zaq (ownL ra sk ((p,ha,aa)::fas)) H (ownL ra sk ((p,ha,aa)::fas)) (upd H3 ha (.lst ((f.hands.set hh.toNat (x)).map V.int))):=m3.trans (zaq.upd zhR)
    generalize upd H3 ha (.lst ((f.hands.set hh.toNat (x)).map V.int))=H4 at *
    obtain⟨k1,_⟩:=A4.fr
    nofun
    walk_at "q"
    nofun
    refine zbw k1 (j:=1) (zcn (k:=1) (by decide) (by show (1:Int)<4;decide)) ?_
    have A5:=A4.setF (q:=f.p+1)
    nofun
    refine⟨da,ra,sk,ks,cr,_,{f with hands:=f.hands.set hh.toNat (x),p:=f.p+1},st,_,lfp,rfl,A5,wfs.top ⟨wf.m,by show 0≤f.p+1;omega,by show f.p+1≤((cr f.n).deeds.length:Int);omega,by show (f.hands.set hh.toNat (x)).length=4;rw[List.length_set];exact wf.h4,wf.a2⟩,λv H6 fas6 m6 A6 e6=>?_⟩
    exact q v H6 fas6 (m4.trans ((zaq.upd zfC).trans m6)) A6 e6
   ·rw[decide_eq_false h2]
    nofun
    refine⟨(by walk_at "sm"),λT hT=>?_⟩
    exact bad (λz=>h2 z.2) T hT
  ·rw[decide_eq_false h1]
   nofun
   refine⟨(by walk_at "sm"),λT hT=>?_⟩
   exact bad (λz=>h1 z.1) T hT
 | turn l j=>
  obtain⟨T,ys,rfl,hT,px⟩:=zaT hdr
  obtain⟨x0,ys,rfl,e0,px⟩:=zal px
  obtain⟨x1,ys,rfl,e1,px⟩:=zal px
  obtain⟨x2,ys,rfl,e2,px⟩:=zal px
  cases zbi px
  cases zbc e0
  obtain⟨la,rfl,hla⟩:=zb6 e1
  cases za4 e2
  simp only[zaY,zbp,btw,Bool.and_eq_true,decide_eq_true_eq] at hok
  obtain⟨hl,hj⟩:=hok
  have wj:∀ k,0≤k→k≤((cr f.n).deeds.length:Int)→Wf ks cr ({f with p:=k}::st):=λk z1 z2=>wfs.top ⟨wf.m,z1,z2,wf.h4,wf.a2⟩
  unfold zcv at q
  nofun
  walk_at "q"
  nofun
  refine zaD (SqT.of hT) (v:=.str "turn") zaB ?_
  nofun
  rw[zlP.1]
  nofun
  walk_at "q"
  nofun
  refine zaF (SqL.of f1) (v:=.int f.p) (zan (j:=1) rfl) ?_
  nofun
  walk_at "q"
  nofun
  refine zaD (SqT.of hT) (v:=.str "turn") zaB ?_
  nofun
  rw[zlP.2]
  nofun
  refine zaD (SqT.of hT) (v:=.str "turn") zaB ?_
  nofun
  rw[decide_eq_true rfl]
  nofun
  refine zaD (SqT.of hT) (v:=.ref la) (zan (j:=1) rfl) ?_
  nofun
  refine⟨p,ha,aa,f,rfl,f1,f2,f3,wf.h4,wf.a2,λna H2 s2 hna=>?_⟩
  nofun
  refine zet h9 (zfw hl) (SqL.of (s2 _ _ hla)) (SqL.of hna) (zel wf) λH3 s3=>?_
  have s23:=s2.trans s3
  rw[zek wf h9 hl]
  nofun
  have A3:=A'.same s23
  have m3:zaq (ownL ra sk ((p,ha,aa)::fas)) H (ownL ra sk ((p,ha,aa)::fas)) H3:=zaq.same s23
  by_cases hb:0≤zaV l (zbf f)
  ·rw[decide_eq_true hb]
   simp only[if_pos hb] at q
   nofun
   refine zaD (SqT.of (s23 _ _ hT)) (v:=.int j) (zan (j:=2) rfl) ?_
   obtain⟨k1,_⟩:=A3.fr
   nofun
   walk_at "q"
   nofun
   refine zbw k1 (j:=1) (zcn (k:=1) (by decide) (by show (1:Int)<4;decide)) ?_
   have A5:=A3.setF (q:=j)
   nofun
   refine⟨da,ra,sk,ks,cr,_,{f with p:=j},st,_,lfp,rfl,A5,wj j hj.1 hj.2,λv H6 fas6 m6 A6 e6=>?_⟩
   exact q v H6 fas6 (m3.trans ((zaq.upd zfC).trans m6)) A6 e6
  ·rw[decide_eq_false hb]
   simp only[if_neg hb] at q
   obtain⟨k1,_⟩:=A3.fr
   nofun
   walk_at "q"
   nofun
   refine zbw k1 (j:=1) (zcn (k:=1) (by decide) (by show (1:Int)<4;decide)) ?_
   have A5:=A3.setF (q:=f.p+1)
   nofun
   refine⟨da,ra,sk,ks,cr,_,{f with p:=f.p+1},st,_,lfp,rfl,A5,wj (f.p+1) (by omega) (by omega),λv H6 fas6 m6 A6 e6=>?_⟩
   exact q v H6 fas6 (m3.trans ((zaq.upd zfC).trans m6)) A6 e6
 | hold l=>
  obtain⟨T,ys,rfl,hT,px⟩:=zaT hdr
  obtain⟨x0,ys,rfl,e0,px⟩:=zal px
  obtain⟨x1,ys,rfl,e1,px⟩:=zal px
  cases zbi px
  cases zbc e0
  obtain⟨la,rfl,hla⟩:=zb6 e1
  simp only[zaY] at hok
  have hl:=hok
  have wj:∀ k,0≤k→k≤((cr f.n).deeds.length:Int)→Wf ks cr ({f with p:=k}::st):=λk z1 z2=>wfs.top ⟨wf.m,z1,z2,wf.h4,wf.a2⟩
  unfold zcv at q
  dsimp only at q
  rw[zif] at q
  nofun
  walk_at "q"
  nofun
  refine zaD (SqT.of hT) (v:=.str "hold") zaB ?_
  nofun
  rw[zi4.1]
  nofun
  walk_at "q"
  nofun
  refine zaF (SqL.of f1) (v:=.int f.p) (zan (j:=1) rfl) ?_
  nofun
  walk_at "q"
  nofun
  refine zaD (SqT.of hT) (v:=.str "hold") zaB ?_
  nofun
  rw[zi4.2.1]
  nofun
  refine zaD (SqT.of hT) (v:=.str "hold") zaB ?_
  nofun
  rw[zi4.2.2]
  nofun
  refine zaD (SqT.of hT) (v:=.str "hold") zaB ?_
  nofun
  rw[decide_eq_true rfl]
  nofun
  refine zaD (SqT.of hT) (v:=.ref la) (zan (j:=1) rfl) ?_
  nofun
  refine⟨p,ha,aa,f,rfl,f1,f2,f3,wf.h4,wf.a2,λna H2 s2 hna=>?_⟩
  nofun
  refine zet h9 (zfw hl) (SqL.of (s2 _ _ hla)) (SqL.of hna) (zel wf) λH3 s3=>?_
  have s23:=s2.trans s3
  rw[zek wf h9 hl]
  nofun
  have A3:=A'.same s23
  have m3:zaq (ownL ra sk ((p,ha,aa)::fas)) H (ownL ra sk ((p,ha,aa)::fas)) H3:=zaq.same s23
  by_cases hb:zaV l (zbf f)<0
  ·rw[decide_eq_true hb]
   rw[if_pos hb] at q
   nofun
   obtain⟨k1,_⟩:=A3.fr
   refine zaF (SqL.of k1) (v:=.int f.n) zaB ?_
   nofun
   refine zaF (SqL.of k1) (v:=.int f.p) (zan (j:=1) rfl) ?_
   nofun
   refine⟨(by walk_at "sm"),λT hT=>?_⟩
   have t5:=zah hT (.tup (brk "hold" f 0))
   exact q _ _ _ (m3.trans (zaq.same t5)) (by show LawX _ da ra sk ks cr _ s'.st _ lfp;rw[hst];exact A3.same t5) ⟨T,rfl,zad⟩
  ·rw[decide_eq_false hb]
   rw[if_neg hb] at q
   obtain⟨k1,_⟩:=A3.fr
   nofun
   walk_at "q"
   nofun
   refine zbw k1 (j:=1) (zcn (k:=1) (by decide) (by show (1:Int)<4;decide)) ?_
   have A5:=A3.setF (q:=f.p+1)
   nofun
   refine⟨da,ra,sk,ks,cr,_,{f with p:=f.p+1},st,_,lfp,rfl,A5,wj (f.p+1) (by omega) (by omega),λv H6 fas6 m6 A6 e6=>?_⟩
   exact q v H6 fas6 (m3.trans ((zaq.upd zfC).trans m6)) A6 e6
 | call m g0 g1 t0 t1=>
  obtain⟨T,ys,rfl,hT,px⟩:=zaT hdr
  obtain⟨x0,ys,rfl,e0,px⟩:=zal px
  obtain⟨x1,ys,rfl,e1,px⟩:=zal px
  obtain⟨x2,ys,rfl,e2,px⟩:=zal px
  obtain⟨x3,ys,rfl,e3,px⟩:=zal px
  cases zbi px
  cases zbc e0
  cases za4 e1
  obtain⟨gv,rfl,hgv⟩:=zeh e2
  obtain⟨b0,b1,_⟩:=zdF hok
  rw[zgu] at q
  nofun
  walk_at "q"
  nofun
  refine zaD (SqT.of hT) (v:=.str "call") zaB ?_
  nofun
  rw[decide_eq_true rfl]
  nofun
  refine⟨da,ra,sk,T,gv,ks,cr,_,f,st,{s' with k:=s'.k+1,en:=s'.en},lfp,m,g0,g1,x3,rfl,A',hst,hT,hgv,b0,b1,wfs,⟨m,g0,g1,t0,t1,hat⟩,by omega,λv H6 fas6 m6 A6 e6=>?_⟩
  exact q v H6 fas6 m6 (by rw[zlQ];exact A6) e6
inductive sp_law (K:Fg) (vs:List V) (H:Hp) (Q:VK) (E:XK):Prop
 | mk (a:Addr) (ns:List Int):vs=[.ref a]→SqL K H a (ns.map V.int)→ns.length≤63→(∀ H',Q (.bl true) H')→sp_law K vs H Q E
theorem zoE {K:Fg}{H:Hp}{v:V}{c:Cr}{fp:List Addr}(h9:∀ d∈c.deeds,zdp d) (h:RepF H (crD c) v fp):∃ pa x1 x2 b3 b4 dvs nvs,v=.ref pa∧H pa=some (.lst [x1,x2,.ref b3,.ref b4])∧Rep K H (zaG c.needs) x1∧Rep K H (zaG c.leaves) x2∧H b3=some (.lst dvs)∧zc4 H c.deeds dvs∧H b4=some (.lst nvs)∧R2 (λls x=>Rep K H (zaG ls) x) c.notes nvs:=by
 unfold crD RepF at h
 obtain⟨pa,pvs,f,rfl,rfl,hp,r⟩:=h
 obtain⟨x1,x2,x3,x4,f1,f2,f3,f4,rfl,g1,g2,g3,g4⟩:=zhx r
 obtain⟨b3,dvs,r3,rfl,h3,z3⟩:=RepF.lso g3
 obtain⟨b4,nvs,r4,rfl,h4,z4⟩:=RepF.lso g4
 refine⟨pa,x1,x2,b3,b4,dvs,nvs,rfl,hp,RepF.rep _ g1,RepF.rep _ g2,h3,⟨by simpa using z3.length,λi d x e1 e2=>?_⟩,h4,⟨by simpa using z4.length,λi ls x e1 e2=>?_⟩⟩
 ·obtain⟨f,hf⟩:=zak.item z3 i (toD d) x (by rw[zgm,e1];rfl) e2
  exact zfq (zei (h9 d (zmg e1))) hf
 ·obtain⟨f,hf⟩:=zak.item z4 i (zaG ls) x (by rw[zgm,e1];rfl) e2
  exact RepF.rep _ hf
theorem zmX (l:List Int):dep (nums l)≤60:=by
 have h:∀ l:List Int,deps (l.map D.int)≤1:=λl=>by
  induction l with
  | nil=>unfold List.map deps;omega
  | cons f st ih=>
   rw[zmc]
   unfold deps
   have:dep (D.int f)≤1:=by simp[dep]
   omega
 show dep (.lst (l.map D.int))≤60
 unfold dep
 have:=h l
 omega
structure Kp (H:Hp) (a:Addr) (S T:List Addr) (H':Hp):Prop where
 k:∀ o,H a=some o→H' a=some o
 s:∀ b∈S,H b=none
 t:∀ b∈T,H b=none
 f:Free H H'
theorem Kp.same {H H' H2:Hp}{a:Addr}{S T:List Addr}(A:Kp H a S T H') (e:Same H' H2):Kp H a S T H2:=⟨λo h=>e _ _ (A.k o h),A.s,A.t,A.f.trans e.fr⟩
theorem Kp.moveS {H H' H2:Hp}{a:Addr}{S S' T:List Addr}(A:Kp H a S T H') (m:zaq S H' S' H2):Kp H a S' T H2:=⟨λo h=>m.1 _ _ (λz=>by rw[A.s _ z] at h;cases h) (A.k o h),λb hb=>by
 rcases m.2.1 b hb with z | z
 ·exact A.s b z
 ·exact A.f b z,A.t,A.f.trans m.2.2⟩
theorem Kp.swap {H H':Hp}{a:Addr}{S T:List Addr}(A:Kp H a S T H'):Kp H a T S H':=⟨A.k,A.t,A.s,A.f⟩
theorem Kp.seq {K:Fg}{H H':Hp}{a:Addr}{S T:List Addr}{xs:List V}(A:Kp H a S T H') (h:SqL K H a xs):SqL K H' a xs:=by
 rcases h with (h | ⟨o,h⟩) | h
 ·exact .inl (.inl (A.k _ h))
 ·exact .inl (.inr ⟨o,A.k _ h⟩)
 ·exact .inr h
theorem zqe {f:Addr}{fd:FuncData}(B:Bl K mg) {C:Nat→Addr}(Z:Zt K mg C) (G_l_parts_here:Fn P w K mg base "_law_parts_here" ["script"] 6 (sp_l_parts_here K)) (M_Hall:Mkr P w K mg base "Hall" (C 8) ["self"] 1 (Q6f K C)) (G_Hall_lay:Mth (CX1 P w) P w K mg base (C 8) "lay" ["self","number","craft"] 8 (Q71 K C)) (M_Run:Mkx P w K mg base "Run" (C 6) ["self","hall","number","given","inputs"] 8 (Qb K C)) (Qa7:Fn P w K mg base "_law_entered" ["crafts","stack","number","asked"] 4 (Qa6 K)) (M_Craft:Mkr P w K mg base "Craft" (C 7) ["self","needs","leaves","deeds","notes"] 2 (Q3d K C)) (Q8c:Fn P w K mg base "_law_number" ["cell","k"] 2 (Q8b K)) (Qb3:Fn P w K mg base "_law_refused" ["hall","number","given","kind"] 10 (Qb2 K C)) (Q9e:Fn P w K mg base "_law_first_false" ["lines","numbers"] 2 (Q9d K)) (Q89:Fn P w K mg base "_law_mix" ["cell","k","many"] 1 (Q88 K)) (Q86:Fn P w K mg base "_law_cell_at" ["script","k"] 1 (Q85 K)) (G_l_alike:Fn P w K mg base "_law_alike" ["found","due"] 1 (Qae K)) (G_l_same:Fn P w K mg base "_law_same" ["run","ending","stack","made"] 2 (Qb0 K C)) (Qac:Fn P w K mg base "_law_stepped" ["crafts","stack","rest"] 6 (Qab K)) (G_Run_go:Mth CX0 P w K mg base (C 6) "go" ["self","fuel"] 10 (Qd K C)) (F:Fun K "law" "law" s_law f fd):FnOk P w K mg base CX0 11 f fd ["script"] (sp_law K):=by
 refine F.ok (k:=10) zbX (λvs H Q E h=>?_) (λcdv A outer s H vs Q E hr h=>?_)
 ·obtain⟨a,ns,rfl,_⟩:=h
  rfl
 obtain⟨a,ns,rfl,hS,hl,q⟩:=h
 refine⟨_,(zae (zaA (i:=1) zbX.nd rfl (Or.inl rfl) (zat G_l_parts_here hr rfl (zac (pv 0) zab)))
   (zae (zaA (i:=2) zbX.nd rfl (Or.inl rfl) (zaE zce (zaE zcY (zat Q86 hr rfl (zac (pv 0) (zaf zaa zab))) zaa) zaa))
   (zae (zaA (i:=3) zbX.nd rfl (Or.inl rfl) (zpU M_Hall hr rfl))
   (zae (zaW (zbb G_Hall_lay Z.c_Hall hr zni (pv 3) (zac (pv 2) (zaL (zn4 M_Craft hr rfl (zaw (zao (k_ix K) (pv 1) zaa (λ_ _=>rfl)) (zaw (zao (k_ix K) (pv 1) zaa (λ_ _=>rfl)) (zaw (zao (k_ix K) (pv 1) zaa (λ_ _=>rfl)) (zaw (zao (k_ix K) (pv 1) zaa (λ_ _=>rfl)) zab))))) zab))))
   (zae (zaA (i:=4) zbX.nd rfl (Or.inl rfl) (za3 (zaL (zat Q8c hr rfl (zaL (zat Q86 hr rfl (zac (pv 0) (zaf zaa zab))) (zaf zaa zab))) (zaL (zat Q8c hr rfl (zaL (zat Q86 hr rfl (zac (pv 0) (zaf zaa zab))) (zaf zaa zab))) zab))))
   (zae (zaR (zau (k_eq K hr) (zaE zce (zat Q86 hr rfl (zac (pv 0) (zaf zaa zab))) zaa) zaa (zay _)) (zae (zaA (i:=5) zbX.nd rfl (Or.inl rfl) (zaE zbm (zaE zce (zat Q86 hr rfl (zac (pv 0) (zaf zaa zab))) (zaE zg8 zaa zaa)) (zao (k_ix K) (za3 (zaf zaa (zmw (zcX zbM zaa) zab))) (zaE zce (zat Q86 hr rfl (zac (pv 0) (zaf zaa zab))) zaa) (λ_ _=>rfl))))
   (zag (zcd (pv 5) (zck (pv 4) (zaE zce (zaE zcY (zat Q86 hr rfl (zac (pv 0) (zaf zaa zab))) zaa) zaa) zbg)))) zax)
   (zae (zaR (zc9 (zb2 (zat Qb3 hr rfl (zac (pv 3) (za6 (zaE zce (zaE (zaO K) (pv 2) zaa) zaa) (zhC (zaZ (zaw (zao (k_ix K) (pv 4) zaa (λ_ _=>rfl)) (zaw (zao (k_ix K) (pv 4) zaa (λ_ _=>rfl)) zab))) (zaf zaa zab))))))) (zag (zar zfb)) zax)
   (zae (zaR (zau zha (zat Q9e hr rfl (zaw (zao (k_ix K) (pv 1) zaa (λ_ _=>rfl)) (za6 (zaE (zaO K) (zaE (zaO K) (zaE zbm (za3 (zaf zaa zab)) zaa) (pv 4)) (za3 (zaf zaa (zaf zaa zab)))) zab))) zaa (zay _)) (zag (zar (zat Qb3 hr rfl (zac (pv 3) (zac (pv 2) (zhC (zaZ (zaw (zao (k_ix K) (pv 4) zaa (λ_ _=>rfl)) (zaw (zao (k_ix K) (pv 4) zaa (λ_ _=>rfl)) zab))) (zaf zaa zab))))))) zax)
   (zae (zcP (i:=6) zbX.nd rfl rfl rfl (COk.m (sc0:=zai s_law) (N:=["script","parts","number","hall","given","far","rest","mine","run","crafts","stack","ending","made","turn","fuel","step"]) (N':=["script","parts","number","hall","given","far","rest","mine","run","crafts","stack","ending","made","turn","fuel","step","k"]) (ms:=[false,false,false,false,false,false,false,false,false,false,false,false,false,false,false,false,true])) (zbz rfl B.range (za6 (zaE zce (zat Q86 hr rfl (zac (pv 0) (zaf zaa zab))) zaa) zab)) (λ_ _ _ _ _=>(zaK (i:=16) (ndS (N:=["script","parts","number","hall","given","far","rest","mine","run","crafts","stack","ending","made","turn","fuel","step","k"])) rfl (Or.inl rfl))) (λ_ _ _ _ _=>za0) (λ_ _ _ _ _=>(zat Q8c hr rfl (zaL (zat Q86 hr rfl (zac (pv 0) (zaf zaa zab))) (za6 (zaE (zaO K) zaa (zaE zbm zaa (pv 16))) zab)))))
   (zae (zaA (i:=7) zbX.nd rfl (Or.inl rfl) (zcl (zhr K) rfl B.list L2.zb4 (zac (pv 6) zab)))
   (zae (zaA (i:=8) zbX.nd rfl (Or.inl rfl) (zpI M_Run hr rfl zni (zac (pv 3) (zac (pv 2) (zhC (zaZ (zaw (zao (k_ix K) (pv 4) zaa (λ_ _=>rfl)) (zaw (zao (k_ix K) (pv 4) zaa (λ_ _=>rfl)) zab))) (zac (pv 7) zab))))))
   (zae (zaR (zau (k_ne K hr) (pv 7) (pv 6) (zay _)) (zag (zar zfb)) zax)
   (zae (zaW (zjP PySem.F.plainAttrs_list PySem.F.slot_list_append PySem.F.type_list_append zdh (pv 7) (zaf zaa zab)))
   (zae (zaA (i:=9) zbX.nd rfl (Or.inl rfl) (znQ (zl7 (pv 2) (pv 1) znP) rfl rfl (by simp) (by simp)))
   (zae (zaA (i:=10) zbX.nd rfl (Or.inl rfl) (za3 zab))
   (zae (zaA (i:=11) zbX.nd rfl (Or.inl rfl) (zat Qa7 hr rfl (zac (pv 9) (zac (pv 10) (zac (pv 2) (zac (pv 4) zab))))))
   (zae (zaA (i:=12) zbX.nd rfl (Or.inl rfl) zaa)
   (zae (zdM PassesOwn.never rfl (zbz rfl B.range (za6 (zaE (zaO K) zaa (zaE zce (zat Q86 hr rfl (zac (pv 0) (zaf zaa zab))) zaa)) zab)) (zaK (i:=13) zbX.nd rfl (Or.inl rfl)) (zae (zaA (i:=14) zbX.nd rfl (Or.inl rfl) (zat Q89 hr rfl (zaL (zat Q86 hr rfl (zac (pv 0) (zaf zaa zab))) (zac (pv 13) (zaf zaa zab)))))
   (zae (zdM PassesOwn.never rfl (zbz rfl B.range (zac (pv 14) zab)) (zaK (i:=15) zbX.nd rfl (Or.inl rfl)) (zag (zaR (zau zfd (pv 11) zcN (zay _)) (zae (zaA (i:=12) zbX.nd rfl (Or.inl rfl) (zaE (zaO K) (pv 12) zaa))
   (zag (zaA (i:=11) zbX.nd rfl (Or.inl rfl) (zat Qac hr rfl (zac (pv 9) (zac (pv 10) (zac (pv 6) zab))))))) zax)))
   (zae (zaR (zc9 (zb2 (zat G_l_alike hr rfl (zaL (zbb G_Run_go Z.c_Run hr za5 (pv 8) (zac (pv 14) zab)) (zpO (zdz (zau zfd (pv 11) zcN (zay _)) (zaZ (zaf zaJ zab)) (pv 11)) zab))))) (zag (zar zfb)) zax)
   (zag (zaR (zc9 (zb2 (zat G_l_same hr rfl (zac (pv 8) (zac (pv 11) (zac (pv 10) (zac (pv 12) zab))))))) (zag (zar zfb)) zax))))))
   (zag (zar zfb)))))))))))))))))))),?_⟩
 nofun
 walk_at "q"
 nofun
 refine⟨a,ns,rfl,hS,λpa H1 c lfp s1 hP f1 rt=>?_⟩
 have lfn:∀ b∈lfp,H1 b≠none:=λb hb z=>by
  obtain⟨o,e⟩:=RepF.has _ hP b hb
  rw[z] at e;cases e
 have hS1:=s1.seq hS
 -- number
 nofun
 walk_at "q"
 nofun
 refine zbY hS1 (by decide) ?_
 nofun
 have n1:=Int.emod_nonneg (cell ns 1 / 3) (show (100:Int)≠0 by decide)
 have n2:=Int.emod_lt_of_pos (cell ns 1 / 3) (show (0:Int)<100 by decide)
 generalize cell ns 1 / 3 % 100=n at n1 n2 ⊢
 -- the hall
 nofun
 walk_at "q"
 nofun
 intro ha dx ha0 dx0 ndx
 refine⟨ha,dx,rfl,zad,λla va H2 la0 va0 nlv o1 h1 h2 h3=>⟨rfl,?_⟩⟩
 have s2:Same H1 H2:=zlu ha0 dx0 o1
 have hA0:HAt (C 8) (C 7) H2 ha la va [] (λ_=>c) [] []:=HAt.start h1 h2 h3 nlv
 have sm:Same H1 (upd (upd H1 dx (.own ha)) ha (.ins (C 8) dx [])):=λb o e=>by
  rw[zaj (zam e ha0),zaj (zam e dx0)];exact e
 have la1:=sm.free la0
 have va1:=sm.free va0
 clear h1 h2 h3 nlv o1 la0 va0 ha0 dx0 ndx sm
 obtain⟨pa',x1,x2,b3,b4,dvs,nvs,e,hpa,R1,R2',hb3,hD,hb4,hN⟩:=zoE (K:=K) rt.nine.d9 (RepF.sm s2 hP)
 cases e
 obtain⟨dx7,hh7⟩:=hA0.ins
 nofun
 walk_at "q"
 nofun
 refine⟨ha,dx7,_,rfl,hh7,ziF (by decide +kernel) (by decide +kernel),?_⟩
 nofun
 refine zaF (SqL.of hpa) (v:=x1) zaB ?_
 nofun
 refine zaF (SqL.of hpa) (v:=x2) (zan (j:=1) rfl) ?_
 nofun
 refine zaF (SqL.of hpa) (v:=.ref b3) (zan (j:=2) rfl) ?_
 nofun
 refine zaF (SqL.of hpa) (v:=.ref b4) (zan (j:=3) rfl) ?_
 nofun
 intro p dp p0 dp0 ndp
 refine zh1 (c:=c) p0 dp0 R1 R2' (SqL.of hb3) (SqL.of hb4) hD hN rt.nine λH8 f s8 hC hf fn=>⟨rfl,?_⟩
 nofun
 refine⟨ha,la,va,p,n,[],(λ_=>c),[],[],c,rfl,hA0.same s8,hC.t rt.nine.d9,rt.nine,by unfold zb9;omega,.inr (by decide),λz=>(by have:=rt.r;rw[this] at z;cases z),λ_ H3 ks' ws' fp o9 hA9 _ _ hks hws hfp'=>?_⟩
 have ws0:ws'=[]:=List.eq_nil_iff_forall_not_mem.mpr λm hm=>by
  have:=((hws m).mp hm).1
  cases this
 have s3:Same H1 H3:=λb o e=>o9 b o (λz=>by
  simp only[List.mem_cons,List.not_mem_nil,or_false] at z
  rcases z with rfl | rfl
  ·rw[la1] at e;cases e
  ·rw[va1] at e;cases e) ((s2.trans s8) b o e)
 have hA3:HAt (C 8) (C 7) H3 ha la va [n] (λ_=>c) [] fp:=by
  rw[show ([n]:List Int)=[]++[n] from rfl,←hks (by simp),←ws0]
  refine hA9.congr λk _=>?_
  unfold setC
  split <;> rfl
 clear hpa R1 R2' hb3 hD hb4 hN hh7 hA0 s2 p0 dp0 ndp hC hf fn s8 o9 hA9 hks hws hfp' ws0 la1 va1
 have hS3:=s3.seq hS1
 -- given
 nofun
 walk_at "q"
 nofun
 refine zbY hS3 (by decide) ?_
 nofun
 refine zdI λH5 s5=>?_
 nofun
 refine zbY (s5.seq hS3) (by decide) ?_
 nofun
 refine zdI λH6 s6=>?_
 nofun
 generalize number (cell ns 2) 1=a0
 generalize number (cell ns 3) 2=a1
 refine⟨(by walk_at "sm"),λga ga0=>?_⟩
 have s7:=(s5.trans s6).trans (zah ga0 (.lst [V.int a0,.int a1]))
 have hga:(upd H6 ga (.lst [V.int a0,.int a1])) ga=some (.lst [V.int a0,.int a1]):=zad
 have ga3:=(s5.trans s6).free ga0
 generalize upd H6 ga (.lst [V.int a0,.int a1])=H7 at *
 clear s5 s6 ga0 H5 H6
 nofun
 with_reducible refine zee (λσ H'=>E3 λx a0 a1=>A3 (σ=[some (.ref a),some (.ref pa),some (.int n),some (.ref ha),some (.ref ga),x,none,none,none,none,none,none,none,none,none,none]) (Same H3 H') (H' ga=some (.lst [V.int a0,.int a1]))) (λNX tail=>?_) ?_
 ·nofun
  refine zbY (s7.seq hS3) (by decide) ?_
  nofun
  refine zeS (λe=>?_) (λe=>?_)
  ·nofun
   walk_at "q"
   nofun
   refine zbY (s7.seq hS3) (by decide) ?_
   nofun
   refine⟨_,_,rfl,rfl,show (0:Int)<10 ^ Int.toNat 18 by decide,?_⟩
   have f1:=Int.emod_nonneg (cell ns 9) (show (10 ^ Int.toNat 18:Int)≠0 by decide)
   have f2:=Int.emod_lt_of_pos (cell ns 9) (show (0:Int)<10 ^ Int.toNat 18 by decide)
   rw[show (10 ^ Int.toNat 18:Int)=1000000000000000000 by decide] at *
   generalize cell ns 9 % 1000000000000000000=far at *
   nofun
   refine⟨(by walk_at "sm"),λz1 hz1=>?_⟩
   have r1:=zah hz1 (.lst [V.int 1,.int (-1)])
   nofun
   refine zbY ((s7.trans r1).seq hS3) (by decide) ?_
   have e1:=Int.emod_nonneg (cell ns 10) (show (2:Int)≠0 by decide)
   have e2:=Int.emod_lt_of_pos (cell ns 10) (show (0:Int)<2 by decide)
   nofun
   generalize cell ns 10 % 2=sg at e1 e2 ⊢
   obtain⟨sv,hsv,hs1⟩:∃ sv:Int,atI [V.int 1,.int (-1)] sg=some (.int sv)∧sv.natAbs≤1:=by
    rcases (show sg=0∨sg=1 by omega) with rfl | rfl
    ·exact⟨1,rfl,by decide⟩
    ·exact⟨-1,rfl,by decide⟩
   refine zaF (SqL.of zad) hsv ?_
   refine ze5 (by unfold CMul;omega) ?_
   nofun
   refine zbY ((s7.trans r1).seq hS3) (by decide) ?_
   have e3:=Int.emod_nonneg (cell ns 8 / 5) (show (2:Int)≠0 by decide)
   have e4:=Int.emod_lt_of_pos (cell ns 8 / 5) (show (0:Int)<2 by decide)
   nofun
   generalize cell ns 8 / 5 % 2=sp at e3 e4 ⊢
   have h7:=r1 _ _ hga
   rcases (show sp=0∨sp=1 by omega) with rfl | rfl
   ·refine zbw (j:=0) h7 rfl ?_
    exact tail _ _ ⟨_,_,_,rfl,(s7.trans r1).put ga3,zad⟩
   ·refine zbw (j:=1) h7 rfl ?_
    exact tail _ _ ⟨_,_,_,rfl,(s7.trans r1).put ga3,zad⟩
  ·nofun
   exact tail _ _ ⟨_,_,_,rfl,s7,hga⟩
 clear s7 hga H7 a0 a1
 rintro σ H4 ⟨x5,a0,a1,rfl,s4,hga⟩
 have hS4:=s4.seq hS3
 have hA4:=hA3.same s4
 -- one that isn't there
 nofun
 with_reducible refine zoj (λQ2 q2=>?_) (λH5 s5=>?_)
 ·nofun
  refine zaF (SqL.of hga) (v:=.int a0) zaB ?_
  nofun
  refine zaF (SqL.of hga) (v:=.int a1) (zan (j:=1) rfl) ?_
  nofun
  refine⟨(by walk_at "sm"),λgt gt0=>?_⟩
  have r1:=zah gt0 (.tup [V.int a0,.int a1])
  nofun
  refine⟨ha,la,va,gt,_,a0,a1,0,[n],(λ_=>c),[],fp,rfl,hA4.same r1,.inr (SqT.of zad),by unfold zb9;omega,.inl ⟨?_,rfl⟩,λH5 s5=>?_⟩
  ·intro z
   have:=zms.mp z
   omega
  ·nofun
   exact q2 _ (r1.trans s5)
 have hS5:=s5.seq hS4
 have hA5:=hA4.same s5
 have hga5:=s5 _ _ hga
 have s15:=s3.trans (s4.trans s5)
 clear hS4 hA4 hS3 hA3 s5 hga
 obtain⟨pa',y1,y2,b3,b4,dvs,nvs,e,hpa,hL,_⟩:=zfB (K:=K) rt.nine.d9 (RepF.sm s15 hP)
 cases e
 nofun
 walk_at "q"
 nofun
 refine zaF (SqL.of hpa) (v:=.ref y1) zaB ?_
 nofun
 refine⟨(by walk_at "sm"),λz1 hz1=>?_⟩
 have r1:=zah hz1 (.lst [V.int 0])
 nofun
 refine .inr ⟨z1,4,[.int 0],rfl,rfl,zad,by decide,by decide,by decide,λz2 hz2=>?_⟩
 rw[zoz]
 have r2:=r1.trans (zah hz2 (.lst (([0,0,0,0]:List Int).map V.int)))
 nofun
 refine zb8 zad (r2 _ _ hga5) ((by walk_at "sm")) λz3 hz3=>?_
 have r3:=r2.trans (zah hz3 (.lst (([0,0,0,0]:List Int).map V.int++[V.int a0,.int a1])))
 nofun
 refine⟨(by walk_at "sm"),λz4 hz4=>?_⟩
 have r4:=zah hz4 (.lst [V.int 0,.int 0])
 refine zb8 (r4 _ _ zad) zad ((by walk_at "sm")) λz5 hz5=>?_
 rw[zlO]
 have r5:=r3.trans (r4.trans (zah hz5 (.lst ((zcB a0 a1).map V.int))))
 nofun
 refine i_ff (hL.same r5) (SqL.of zad) rfl rt.sm.1 (by have:=rt.parts.1;omega) λH6 s6=>?_
 have s56:=r5.trans s6
 clear r1 r2 r3 r4 r5 hz1 hz2 hz3 hz4 hz5 s6 hL hpa
 have hga6:=s56 _ _ hga5
 have hS6:=s56.seq hS5
 have hA6:=hA5.same s56
 have s16:=s15.trans s56
 have s36:=s4
 clear hS5 hA5 hga5 s56 s15
 nofun
 cases hb:zav c.needs (zcB a0 a1) with
 | some i=>
  unfold ffI
  rw[decide_eq_true (show (0:Int)≤((i:Nat):Int) by omega)]
  nofun
  refine zaF (SqL.of hga6) (v:=.int a0) zaB ?_
  nofun
  refine zaF (SqL.of hga6) (v:=.int a1) (zan (j:=1) rfl) ?_
  nofun
  refine⟨(by walk_at "sm"),λgt gt0=>?_⟩
  have r1:=zah gt0 (.tup [V.int a0,.int a1])
  nofun
  exact⟨ha,la,va,gt,_,a0,a1,1,[n],(λ_=>c),[],fp,rfl,hA6.same r1,.inr (SqT.of zad),by unfold zb9;omega,.inr ⟨zms.mpr rfl,rfl,by rw[hb];intro z;cases z⟩,λH7 s7=>q _⟩
 | none=>
 unfold ffI
 rw[decide_eq_false (show ¬ (0:Int)≤-1 by decide)]
 -- rest
 nofun
 walk_at "q"
 nofun
 refine zbY hS6 (by decide) ?_
 have r0:=Int.emod_nonneg (cell ns 5) (show (9:Int)≠0 by decide)
 have r9:=Int.emod_lt_of_pos (cell ns 5) (show (0:Int)<9 by decide)
 nofun
 generalize cell ns 5 % 9=rn at r0 r9 ⊢
 refine zcZ (by omega) (by omega) ?_
 refine za8 zbZ (((List.range rn.toNat).map λ(k:Nat)=>number (cell ns 4) (3+3 * (0+(k:Int)))).map D.int) (by simp) (zaC (by omega)) (λj x d H8 R hj hd s8 hx hR=>?_) (λv H8 s8 n8=>?_)
 ·subst hx
  rw[zgm] at hd
  obtain⟨z,hz,rfl⟩:=zme.mp hd
  rw[zgm,List.getElem?_range hj] at hz
  cases hz
  nofun
  refine zbY (s8.seq hS6) (by decide) ?_
  nofun
  refine zdI λH9 s9=>?_
  exact hR _ _ s9 New.int
 obtain⟨rl,rfl,rl0,hrl⟩:=New.iif.mp n8
 have rlen:((List.range rn.toNat).map λ(k:Nat)=>number (cell ns 4) (3+3 * (0+(k:Int)))).length≤9:=by simp;omega
 generalize ((List.range rn.toNat).map λ(k:Nat)=>number (cell ns 4) (3+3 * (0+(k:Int))))=rest at *
 -- mine
 nofun
 walk_at "q"
 nofun
 refine zeb (.inl (SqL.of hrl)) λma ma0=>?_
 have s9:=zah ma0 (.lst (rest.map V.int))
 have hma:(upd H8 ma (.lst (rest.map V.int))) ma=some (.lst (rest.map V.int)):=zad
 have s69:=s8.trans s9
 have hrl9:=s9 _ _ hrl
 have nrm:rl≠ma:=zam hrl ma0
 have ma6:=s8.free ma0
 generalize upd H8 ma (.lst (rest.map V.int))=H9 at *
 have hga9:=s69 _ _ hga6
 have s19:=s16.trans s69
 have hA9:=hA6.same s69
 have hS9:=s69.seq hS6
 have nrg:rl≠ga:=λz=>by rw[z,hga6] at rl0;cases rl0
 have nmg:ma≠ga:=λz=>by rw[z,hga6] at ma6;cases ma6
 have rl1:=s16.free rl0
 have ma1:=s16.free ma6
 have hS8:=s8.seq hS6
 have hga8:=s8 _ _ hga6
 have s18:=s16.trans s8
 clear n8 rl0 s8 hA6 hS6 hga6 s69 s16 ma6 r0 r9
 -- the run
 nofun
 walk_at "q"
 nofun
 refine zaF (SqL.of hga9) (v:=.int a0) zaB ?_
 nofun
 refine zaF (SqL.of hga9) (v:=.int a1) (zan (j:=1) rfl) ?_
 nofun
 refine⟨(by walk_at "sm"),λgt gt0=>?_⟩
 have t1:=zah gt0 (.tup [V.int a0,.int a1])
 have hgt:=zad (H:=H9) (a:=gt) (o:=.tup [V.int a0,.int a1])
 generalize upd H9 gt (.tup [V.int a0,.int a1])=H10 at *
 nofun
 intro r dx1 r10 dx10 ndx1
 have mk:=zeI (c:=(C 6)) r10 dx10
 refine⟨r,dx1,ha,la,va,gt,ma,n,a0,a1,[n],(λ_=>c),[],fp,rest,rfl,zad,hA9.same (t1.trans mk),.inr (SqT.of (mk _ _ hgt)),SqL.of (mk _ _ (t1 _ _ hma)),by unfold zb9;omega,λz=>absurd (zms.mpr rfl) z,λ_ z=>absurd hb z,λ_ _ H11 ka ia sa fas kfp nn m5 RX pmn kf=>⟨rfl,?_⟩⟩
 obtain⟨s11,ow⟩:=made2 r10 dx10 m5
 have kf':∀ b∈ka::kfp,H10 b=none:=λb hb=>mk.free (kf b hb)
 clear kf m5 mk r10 dx10 ndx1 hgt gt0
 have s9b:=t1.trans s11
 have hma11:=s9b _ _ hma
 -- what it was given is as it was
 nofun
 walk_at "q"
 nofun
 refine zlg (d:=nums rest) (RepF.rep _ (RepF.line hma11)) (RepF.rep _ (RepF.line (s9b _ _ hrl9))) (zmX _) ?_
 nofun
 walk_at "q"
 nofun
 refine⟨tyL hma11,?_⟩
 nofun
 refine zmp hma11 (zb3 (by rw[zlm];omega)) ?_
 have s12:Same H8 (upd H11 ma (.lst (rest.map V.int++[.int 5]))):=(s9.trans s9b).put ma0
 have RX12:RunX (C 6) (C 5) (C 7) (upd H11 ma (.lst (rest.map V.int++[.int 5]))) r ka ia sa nn (λ_=>c) fas (zca (λ_=>c) ⟨[],rest,0,none⟩ (zbq n a0 a1) []) kfp:=RX.offS (S:=[ma]) (zbn (by simp)) λb hb=>by
  rw[zms.mp hb]
  have hm:=t1 _ _ hma
  refine⟨λz=>?_,λz=>?_,λz=>?_,λxs z=>by rw[hma11] at z;cases z⟩
  ·rw[ow _ z] at hm;cases hm
  ·rw[kf' _ (List.mem_cons_of_mem _ z)] at hm;cases hm
  ·rw[z,kf' _ List.mem_cons_self] at hm;cases hm
 have fr12:∀ b,H8 b≠none∨b=ma→H10 b≠none:=λb hb z=>by
  rcases hb with w | w
  ·exact w ((s9.trans t1).free z)
  ·rw[w,t1 _ _ hma] at z;cases z
 generalize upd H11 ma (.lst (rest.map V.int++[.int 5]))=H12 at *
 clear hma11 hma s9b s9 RX s11 t1 hrl9 hga9 hA9 hS9 s19
 nofun
 walk_at "q"
 nofun
 refine zpS λda da0=>?_
 nofun
 refine⟨zad,[(.inl n,.ref pa)],rfl,by show 1≤15;decide,?_⟩
 have s13:Same H12 (upd (upd H12 da (.dK [])) da (.dK (zd7 [] [(.inl n,.ref pa)]))):=(zah da0 _).put da0
 have hda:(upd (upd H12 da (.dK [])) da (.dK (zd7 [] [(.inl n,.ref pa)]))) da=some (.dK (putK [] (.inl n) (.ref pa))):=zad
 generalize upd (upd H12 da (.dK [])) da (.dK (zd7 [] [(.inl n,.ref pa)]))=H13 at *
 nofun
 walk_at "q"
 nofun
 refine⟨(by walk_at "sm"),λsk sk0=>?_⟩
 have s14:=zah sk0 (.lst [])
 have hsk:(upd H13 sk (.lst [])) sk=some (.lst []):=zad
 have sR:=s13.trans s14
 have s814:=s12.trans sR
 have s114:=s18.trans s814
 have hrl14:=s814 _ _ hrl
 have L14:LawX (upd H13 sk (.lst [])) da rl sk [n] (λ_=>c) [] [] rest lfp:=by
  refine⟨⟨_,s14 _ _ hda,?_⟩,λm _=>rt,hrl14,hsk,trivial,?_,λb hb z=>?_,λb hb=>?_⟩
  ·have:=(KVs.nil (P:=λm v=>∃ f,RepF (upd H13 sk (.lst [])) (crD ((λ_=>c) m)) v f∧∀ b∈f,b∈lfp)).put (m:=n) (v:=.ref pa) ⟨lfp,RepF.sm s114 hP,λb hb=>hb⟩
   rw[if_neg (by simp)] at this
   exact this
  ·unfold ownL fasL
   have:rl≠sk:=zam ((s12.trans s13) _ _ hrl) sk0
   simp[this]
  ·simp only[ownL,fasL,List.flatMap_nil,List.mem_cons,List.not_mem_nil,or_false] at hb
   rcases hb with rfl | rfl
   ·exact lfn _ z rl1
   ·exact lfn _ z ((s18.trans (s12.trans s13)).free sk0)
  ·cases hz:H1 b with
   | none=>exact absurd hz (lfn b hb)
   | some o=>exact⟨o,s114 _ _ hz⟩
 have T14:Two (C 6) (C 5) (C 7) (upd H13 sk (.lst [])) r ka ia sa nn fas kfp da rl sk [n] [] lfp ga [V.int a0,.int a1] (λ_=>c) (zca (λ_=>c) ⟨[],rest,0,none⟩ (zbq n a0 a1) []) ⟨[],rest,0,none⟩:=by
  refine⟨RX12.same sR,L14,s814 _ _ hga8,λb hb=>?_,λb hb=>?_⟩
  ·have hb0:=ow b hb
   refine⟨λz=>?_,λz=>?_,λz=>?_⟩
   ·simp only[ownL,fasL,List.flatMap_nil,List.mem_cons,List.not_mem_nil,or_false] at z
    rcases z with rfl | rfl
    ·exact fr12 _ (.inl (by rw[hrl];intro w;cases w)) hb0
    ·obtain⟨o,e,_⟩:=RX12.has _ hb
     rw[s13.free sk0] at e;cases e
   ·exact fr12 b (.inl λw=>lfn b z (s18.free w)) hb0
   ·exact fr12 b (.inl (by rw[z,hga8];intro w;cases w)) hb0
  ·simp only[ownL,fasL,List.flatMap_nil,List.mem_cons,List.not_mem_nil,or_false] at hb
   rcases hb with rfl | rfl
   ·exact⟨λz=>fr12 _ (.inl (by rw[hrl];intro w;cases w)) (kf' _ (List.mem_cons_of_mem _ z)),nrg⟩
   ·refine⟨λz=>?_,λz=>?_⟩
    ·obtain⟨o,e⟩:=RX12.kn.has _ z
     rw[s13.free sk0] at e;cases e
    ·rw[z,(s12.trans s13) _ _ hga8] at sk0;cases sk0
 have Kp14:Kp H a (zas r ia sa fas) (ownL rl sk []) (upd H13 sk (.lst [])):=⟨λo e=>(s1.trans s114) _ _ e,λb hb=>by
  have hb0:=ow b hb
  cases e:H b with
  | none=>rfl
  | some o=>exact absurd hb0 (fr12 b (.inl λw=>by rw[(s1.trans s18) _ _ e] at w;cases w)),λb hb=>by
  simp only[ownL,fasL,List.flatMap_nil,List.mem_cons,List.not_mem_nil,or_false] at hb
  rcases hb with rfl | rfl
  ·exact s1.free rl1
  ·exact (s1.trans (s18.trans (s12.trans s13))).free sk0,(s1.trans s114).fr⟩
 have hga14:=s814 _ _ hga8
 generalize upd H13 sk (.lst [])=H14 at *
 have wb:∀ ns':List Int,(∀ m,m∈[n]→m∈ns')→Wf ns' (λ_=>c) [zbq n a0 a1]:=λns' pm=>⟨λk hk=>by
  rw[zms.mp hk]
  exact⟨pm n (zms.mpr rfl),by show (0:Int)≤0;omega,by show (0:Int)≤_;omega,rfl,rfl⟩,λk hk=>by cases hk⟩
 have nk:∀ m,m∈nn↔m∈[n]:=λm=>pmn.mem_iff
 clear hda s13 s14 sR s814 s114 hrl14 RX12 s12 kf' ow fr12 da0 sk0 hsk hrl hga8 hS8 s18 rl1 ma1 nrg nmg nrm
 nofun
 walk_at "q"
 nofun
 refine⟨da,rl,sk,ga,[n],(λ_=>c),[],[],rest,lfp,n,a0,a1,rfl,L14,hga14,wb [n] (λm h=>h),by decide,λev H15 fas' m15 L15 e15=>?_⟩
 have T15:=T14.moveL (sL':=zca (λ_=>c) ⟨[],rest,0,none⟩ (zbq n a0 a1) []) m15 L15
 have K15:=Kp14.swap.moveS m15
 have e15:zdK H15 (zca (λ_=>c) ⟨[],rest,0,none⟩ (zbq n a0 a1) []).en ev:=e15
 have wn:WfR nn (λ_=>c) (zca (λ_=>c) ⟨[],rest,0,none⟩ (zbq n a0 a1) []):=zcC (wb nn λm h=>(nk m).mpr h)
 have wk:WfR [n] (λ_=>c) (zca (λ_=>c) ⟨[],rest,0,none⟩ (zbq n a0 a1) []):=zcC (wb [n] λm h=>h)
 have l20:(zca (λ_=>c) ⟨[],rest,0,none⟩ (zbq n a0 a1) []).st.length≤20:=Nat.le_trans ze7 (by simp)
 have eok:zc5 (zca (λ_=>c) ⟨[],rest,0,none⟩ (zbq n a0 a1) []).en:=zcF
 have k0:(zca (λ_=>c) ⟨[],rest,0,none⟩ (zbq n a0 a1) []).k=0:=rfl
 clear T14 L14 L15 m15 Kp14 hga14 wb
 generalize zca (λ_=>c) ⟨[],rest,0,none⟩ (zbq n a0 a1) []=s0 at *
 nofun
 walk_at "q"
 nofun
 walk_at "q"
 nofun
 refine zbY (K15.seq hS) (by decide) ?_
 have m0:=Int.emod_nonneg (cell ns 6) (show (6:Int)≠0 by decide)
 have m6:=Int.emod_lt_of_pos (cell ns 6) (show (0:Int)<6 by decide)
 nofun
 generalize cell ns 6 % 6=mt at m0 m6 ⊢
 refine zcZ (by omega) (by omega) ?_
 refine ziv (λi σ H'=>E7 λev x13 x14 x15 fR fL s=>A8 (σ=[some (.ref a),some (.ref pa),some (.int n),some (.ref ha),some (.ref ga),x5,some (.ref rl),some (.ref ma),some (.ref r),some (.ref da),some (.ref sk),some ev,some (.int s.k),x13,x14,x15]) (Two (C 6) (C 5) (C 7) H' r ka ia sa nn fR kfp da rl sk [n] fL lfp ga [V.int a0,.int a1] (λ_=>c) s s) (zdK H' s.en ev) (WfR nn (λ_=>c) s) (WfR [n] (λ_=>c) s) (s.st.length≤20) (zc5 s.en) (Kp H a (ownL rl sk fL) (zas r ia sa fR) H'))
  ⟨ev,none,none,none,fas,fas',s0,by rw[k0];rfl,T15,e15,wn,wk,l20,eok,K15⟩ ?_ ?_
 ·clear T15 wn wk l20 eok K15 k0
  rintro i σ H16 hi ⟨ev,x13,x14,x15,fR,fL,s1',rfl,T1,hev1,wn1,wk1,l1,eo1,K1⟩
  nofun
  walk_at "q"
  nofun
  refine zbY (K1.seq hS) (by decide) ?_
  nofun
  refine zd5 (by decide) ?_
  have f0:=za7 (c:=cell ns 7) (k:=0+(i:Int)) (m:=10) (by decide)
  have f1:=zcR (c:=cell ns 7) (k:=0+(i:Int)) (m:=10) (by decide)
  nofun
  generalize mix (cell ns 7) (0+(i:Int)) 10=fuel at f0 f1 ⊢
  -- the law's own steps
  nofun
  with_reducible refine zee (λσ H'=>E3 λev x15 fL=>A4 (σ=[some (.ref a),some (.ref pa),some (.int n),some (.ref ha),some (.ref ga),x5,some (.ref rl),some (.ref ma),some (.ref r),some (.ref da),some (.ref sk),some ev,some (.int (goR (λ_=>c) [n] fuel.toNat s1').k),some (.int (0+(i:Int))),some (.int fuel),x15]) (Two (C 6) (C 5) (C 7) H' r ka ia sa nn fR kfp da rl sk [n] fL lfp ga [V.int a0,.int a1] (λ_=>c) s1' (goR (λ_=>c) [n] fuel.toNat s1')) (zdK H' (goR (λ_=>c) [n] fuel.toNat s1').en ev) (Kp H a (ownL rl sk fL) (zas r ia sa fR) H')) (λNX tail=>?_) ?_
  ·nofun
   refine zcZ (by omega) (by omega) ?_
   refine ziv (λj σ H'=>E3 λev x15 fL=>A4 (σ=[some (.ref a),some (.ref pa),some (.int n),some (.ref ha),some (.ref ga),x5,some (.ref rl),some (.ref ma),some (.ref r),some (.ref da),some (.ref sk),some ev,some (.int (goR (λ_=>c) [n] j s1').k),some (.int (0+(i:Int))),some (.int fuel),x15]) (Two (C 6) (C 5) (C 7) H' r ka ia sa nn fR kfp da rl sk [n] fL lfp ga [V.int a0,.int a1] (λ_=>c) s1' (goR (λ_=>c) [n] j s1')) (zdK H' (goR (λ_=>c) [n] j s1').en ev) (Kp H a (ownL rl sk fL) (zas r ia sa fR) H'))
    ⟨ev,x15,fL,rfl,T1,hev1,K1⟩ ?_ (λσ H' z=>tail _ _ z)
   rintro j σ H2 hj ⟨ev2,x15',fL2,rfl,T2,hev2,K2⟩
   have wj:=zjp (λm _=>rt) j wk1
   have lj:=ziP (ks:=[n]) (cr:=λ_=>c) j l1
   nofun
   refine⟨rfl,?_⟩
   rw[hev2.none_iff]
   cases hen:(goR (λ_=>c) [n] j s1').en with
   | some e=>
    have ne:(goR (λ_=>c) [n] j s1').en≠none:=by rw[hen];intro z;cases z
    have es:goR (λ_=>c) [n] (j+1) s1'=goR (λ_=>c) [n] j s1':=by rw[ziK j 1];exact ziJ ne 1
    dsimp only[Option.isNone]
    nofun
    rw[es]
    exact⟨ev2,_,fL2,rfl,T2,hev2,K2⟩
   | none=>
    have es:=zmD (cr:=λ_=>c) (ks:=[n]) j s1' hen
    dsimp only[Option.isNone]
    nofun
    walk_at "q"
    nofun
    refine⟨da,rl,sk,[n],(λ_=>c),fL2,goR (λ_=>c) [n] j s1',lfp,rfl,T2.law,wj,hen,lj,λv H3 fL3 m3 B3 e3=>?_⟩
    nofun
    have T3:=T2.moveL m3 B3
    have hk:=zot wj hen
    rw[←es] at T3 e3 hk
    exact⟨v,some (.int (0+(j:Int))),fL3,by rw[hk];rfl,T3,e3,K2.moveS m3⟩
  rintro σ H2 ⟨ev2,x15',fL2,rfl,T2,hev2,K2⟩
  have eo2:=zhS (ks:=[n]) (cr:=λ_=>c) fuel.toNat eo1
  have l2:=ziP (ks:=[n]) (cr:=λ_=>c) fuel.toNat l1
  have wk2:=zjp (λm _=>rt) fuel.toNat wk1
  have wn2:WfR nn (λ_=>c) (goR (λ_=>c) [n] fuel.toNat s1'):=by
   rw[←zlC nk];exact zjp (λm _=>rt) _ wn1
  obtain⟨dr,evr,hr',_⟩:=T2.run.ins
  -- it goes
  with_reducible refine zee (λσ H'=>∃ fR',A4 (σ=[some (.ref a),some (.ref pa),some (.int n),some (.ref ha),some (.ref ga),x5,some (.ref rl),some (.ref ma),some (.ref r),some (.ref da),some (.ref sk),some ev2,some (.int (goR (λ_=>c) [n] fuel.toNat s1').k),some (.int (0+(i:Int))),some (.int fuel),x15']) (Two (C 6) (C 5) (C 7) H' r ka ia sa nn fR' kfp da rl sk [n] fL2 lfp ga [V.int a0,.int a1] (λ_=>c) (goR (λ_=>c) [n] fuel.toNat s1') (goR (λ_=>c) [n] fuel.toNat s1')) (zdK H' (goR (λ_=>c) [n] fuel.toNat s1').en ev2) (Kp H a (ownL rl sk fL2) (zas r ia sa fR') H')) (λNX tail=>?_) ?_
  ·nofun
   refine⟨r,dr,_,rfl,hr',zbH (by decide +kernel),?_⟩
   nofun
   refine⟨r,ka,ia,sa,nn,(λ_=>c),fR,s1',kfp,fuel,rfl,T2.run,wn1,l1,λtold H3 fR3 m3 B3 t3 _ _=>?_⟩
   rw[zlC nk] at B3 t3
   have T3:=T2.moveR m3 B3
   have hev3:=hev2.tups (T2.run.ntup m3.1)
   have K3:=(K2.swap.moveS m3).swap
   obtain⟨Tt,rfl,hTt⟩:=t3
   generalize goR (λ_=>c) [n] fuel.toNat s1'=s2 at *
   nofun
   refine⟨rfl,?_⟩
   rw[hev3.none_iff]
   cases hen:s2.en with
   | none=>
    dsimp only[Option.isNone]
    nofun
    refine⟨(by walk_at "sm"),λTc hTc=>?_⟩
    have st:=zah hTc (.tup [V.str "cut"])
    rw[hen] at hTt
    nofun
    refine⟨Tt,Tc,[.str "cut"],rfl,st _ _ hTt,zad,rfl,by simp,λH4 s4=>?_⟩
    nofun
    exact tail _ _ ⟨fR3,rfl,T3.same (st.trans s4),hev3.tups (st.trans s4).tups,K3.same (st.trans s4)⟩
   | some e=>
    dsimp only[Option.isNone]
    rw[hen] at hTt
    have hev4:=hev3
    rw[hen] at hev4
    obtain⟨Te,rfl,hTe⟩:=hev4
    have fe:=eo2.flat
    rw[hen] at fe
    nofun
    refine⟨Tt,Te,e,rfl,hTt,hTe,fe.1,fe.2,λH4 s4=>?_⟩
    nofun
    exact tail _ _ ⟨fR3,rfl,T3.same s4,hev3.tups s4.tups,K3.same s4⟩
  rintro σ H3 ⟨fR3,rfl,T3,hev3,K3⟩
  generalize goR (λ_=>c) [n] fuel.toNat s1'=s2 at *
  nofun
  refine⟨r,ka,ia,sa,nn,fR3,kfp,da,rl,sk,[n],fL2,lfp,(λ_=>c),s2,ev2,rfl,T3.run,T3.law,l2,λH4 s4=>?_⟩
  nofun
  exact⟨ev2,_,_,_,fR3,fL2,s2,rfl,T3.same s4,hev3.tups s4.tups,wn2,wk2,l2,eo2,K3.same s4⟩
 ·rintro σ H16 ⟨ev,x13,x14,x15,fR,fL,s1',rfl,_,_,_,_,_,_,_⟩
  nofun
  exact q _
end
end My
namespace My
open PySem L2 PyProof.Rows
abbrev FQ (K:Fg) (f:Addr) (x q:Str) (s:Stmt):Prop:=∃ oc od sl kV dc pm an cd ct,K.lookup f=some ⟨oc,od,.func (fnOf x q (zcW s) (zb7 s) (zai s) .none kV dc pm an cd ct),sl⟩∧codeIn K cd q=true∧keepIn K (.ref f)=true
theorem zaQ {K:Fg}{f:Addr}{x q:Str}{s:Stmt}(h:FQ K f x q s):∃ fd,Fun K x q s f fd:=by
 obtain⟨_,_,_,_,_,_,_,_,_,l,c,k⟩:=h
 exact⟨_,zm9 l c k⟩
abbrev NI (K:Fg) (x:Str) (f:Addr):Prop:=nsIn K mainGlobals x=some (some (.ref f))
abbrev FI (K:Fg) (C:Addr) (x:Str) (f:Addr):Prop:=findIn K (.ref C) x=some (some (.ref f))
abbrev KI (K:Fg) (f:Addr):Prop:=keepIn K (.ref f)=true
abbrev IF (K:Fg) (f:Addr):Prop:=isFn K (.ref f)=true
theorem all_mk {l:PySem.W.OpenLaw}{w:World}{K:Fg}{h:Heap}{mg:Str→Option Value}{fa:Addr}(X:K.In h) (G:h.Ns mainGlobals mg) (hfa:mg "law"=some (.ref fa))
  {C0 C1 C2 C3 C4 C5 C6 C7 C8 f1 f2 f3 f4 f5 f6 f7 f8 f9 f10 f11 f12 f13 f14 f15 f16 f17 f18 f19 f20 f21 f22 f23 f24 f25 f26 f27 f28 f29 f30 f31 f32 f33 f34 f35 f36 f37 f38 f39 f40 f41 f42 f43 f44 f45 f46 f47 f48 f49 f50 f51 f52 f53 f54 f55 f56 f57 f58 f59 f60 f61 f62 f63 f64 f65 f66 f67 f68 f69 a_HAND_SPOTS a_LEFT_SPOTS a_LEFT_AS_HANDS a_WHOLES xN0 xN1 xN2 xN3 xN4:Addr}
  {t_NUMBERS t_FACTORS t_MOST_FRAMES t_HAND_SPOTS_0 t_HAND_SPOTS_1 t_HAND_SPOTS_2 t_HAND_SPOTS_3 t_LEFT_SPOTS_0 t_LEFT_SPOTS_1 t_LEFT_AS_HANDS_0 t_LEFT_AS_HANDS_1 t_LEFT_AS_HANDS_2 t_LEFT_AS_HANDS_3 t_LEFT_AS_HANDS_4 t_LEFT_AS_HANDS_5 t_LEFT_AS_HANDS_6 t_LEFT_AS_HANDS_7 t_MOST_LINES t_MOST_DEEDS t_LAST_HAND t_LAST_NUMBER t_GREATEST_BY t_GREATEST t_ASKED_0 t_ASKED_1 t_NEW_0 t_NEW_1 t_WHOLES_0 t_WHOLES_1 t_WHOLES_2 t_WHOLES_3:Tok}
  {dd_HAND_SPOTS dd_LEFT_SPOTS dd_LEFT_AS_HANDS dd_WHOLES xd0 xd1 xd2 xd3 xd4:Option Addr}
  {n_HAND_SPOTS n_LEFT_SPOTS n_LEFT_AS_HANDS n_WHOLES:Nat}
  {ss_HAND_SPOTS ss_LEFT_SPOTS ss_LEFT_AS_HANDS ss_WHOLES:Array (Option Value)}
  {xn0 xq0 xn1 xq1 xn2 xq2 xn3 xq3 xn4 xq4:Str}
  {xb0 xs0 xb1 xs1 xb2 xs2 xb3 xs3 xb4 xs4:List Value}
  {xh0 xa0 xh1 xa1 xh2 xa2 xh3 xa3 xh4 xa4:Bool}
  {xl0 xl1 xl2 xl3 xl4:List Str}
  {xc0 xc1 xc2 xc3 xc4:Option Bool}
  {x0_0 x1_0 x2_0 x3_0 x5_0 x0_1 x1_1 x2_1 x3_1 x5_1 x0_2 x1_2 x2_2 x3_2 x5_2 x0_3 x1_3 x2_3 x3_3 x5_3 x0_4 x1_4 x2_4 x3_4 x5_4:Option Value}
  (aC0:NI K "HallError" C0)
  (aC1:NI K "BadSheet" C1)
  (aC2:NI K "NoCraft" C2)
  (aC3:NI K "Unmet" C3)
  (aC4:NI K "Unfit" C4)
  (aC5:NI K "Frame" C5)
  (aC6:NI K "Run" C6)
  (aC7:NI K "Craft" C7)
  (aC8:NI K "Hall" C8)
  (a1:NI K "copied_lines" f1) (l1:FQ K f1 "copied_lines" "copied_lines" Q3e)
  (a2:NI K "copied_deed" f2) (l2:FQ K f2 "copied_deed" "copied_deed" Q41)
  (a3:FI K C7 "__init__" f3) (i3:IF K f3) (l3:FQ K f3 "__init__" "Craft.__init__" Q3c)
  (a4:NI K "worth" f4) (l4:FQ K f4 "worth" "worth" Q0)
  (a5:NI K "holds" f5) (l5:FQ K f5 "holds" "holds" Q3)
  (a6:FI K C5 "__init__" f6) (i6:IF K f6) (l6:FQ K f6 "__init__" "Frame.__init__" Q5)
  (a7:FI K C5 "numbers" f7) (i7:IF K f7) (l7:FQ K f7 "numbers" "Frame.numbers" Q7)
  (a8:FI K C8 "standing" f8) (i8:IF K f8) (l8:FQ K f8 "standing" "Hall.standing" Q72)
  (a9:NI K "copied_craft" f9) (l9:FQ K f9 "copied_craft" "copied_craft" Q44)
  (a10:FI K C8 "crafts" f10) (i10:IF K f10) (l10:FQ K f10 "crafts" "Hall.crafts" Q75)
  (a11:FI K C6 "craft_of" f11) (i11:IF K f11) (l11:FQ K f11 "craft_of" "Run.craft_of" Q30)
  (a12:FI K C6 "is_behind_last_deed" f12) (i12:IF K f12) (l12:FQ K f12 "is_behind_last_deed" "Run.is_behind_last_deed" Q25)
  (a13:NI K "first_unmet" f13) (l13:FQ K f13 "first_unmet" "first_unmet" Q36)
  (a14:FI K C6 "meets" f14) (i14:IF K f14) (l14:FQ K f14 "meets" "Run.meets" Q33)
  (a15:FI K C6 "take" f15) (i15:IF K f15) (l15:FQ K f15 "take" "Run.take" Q2e)
  (a16:FI K C6 "leave" f16) (i16:IF K f16) (l16:FQ K f16 "leave" "Run.leave" Q2b)
  (a17:FI K C6 "meet_notes" f17) (i17:IF K f17) (l17:FQ K f17 "meet_notes" "Run.meet_notes" Q28)
  (a18:FI K C6 "come_to" f18) (i18:IF K f18) (l18:FQ K f18 "come_to" "Run.come_to" Q22)
  (a19:FI K C6 "begin" f19) (i19:IF K f19) (l19:FQ K f19 "begin" "Run.begin" Q1f)
  (a20:NI K "asked_numbers" f20) (l20:FQ K f20 "asked_numbers" "asked_numbers" Q39)
  (a21:FI K C6 "__init__" f21) (i21:IF K f21) (l21:FQ K f21 "__init__" "Run.__init__" Qa)
  (a22:FI K C6 "put" f22) (i22:IF K f22) (l22:FQ K f22 "put" "Run.put" Q16)
  (a23:FI K C6 "draw" f23) (i23:IF K f23) (l23:FQ K f23 "draw" "Run.draw" Q19)
  (a24:FI K C6 "hold" f24) (i24:IF K f24) (l24:FQ K f24 "hold" "Run.hold" Q1b)
  (a25:FI K C6 "call" f25) (i25:IF K f25) (l25:FQ K f25 "call" "Run.call" Q1d)
  (a26:FI K C6 "step" f26) (i26:IF K f26) (l26:FQ K f26 "step" "Run.step" Q14)
  (a27:FI K C6 "go" f27) (i27:IF K f27) (l27:FQ K f27 "go" "Run.go" Qc)
  (a28:FI K C6 "steps" f28) (i28:IF K f28) (l28:FQ K f28 "steps" "Run.steps" Qe)
  (a29:FI K C6 "frames" f29) (i29:IF K f29) (l29:FQ K f29 "frames" "Run.frames" Q11)
  (a30:NI K "called_by" f30) (l30:FQ K f30 "called_by" "called_by" Q47)
  (a31:NI K "between" f31) (l31:FQ K f31 "between" "between" Q6b)
  (a32:NI K "small_enough" f32) (l32:FQ K f32 "small_enough" "small_enough" Q69)
  (a33:NI K "line_right" f33) (l33:FQ K f33 "line_right" "line_right" Q58)
  (a34:NI K "lines_right" f34) (l34:FQ K f34 "lines_right" "lines_right" Q55)
  (a35:NI K "oath_right" f35) (l35:FQ K f35 "oath_right" "oath_right" Q4c)
  (a36:NI K "hand_right" f36) (l36:FQ K f36 "hand_right" "hand_right" Q67)
  (a37:NI K "two_hands_right" f37) (l37:FQ K f37 "two_hands_right" "two_hands_right" Q64)
  (a38:NI K "call_right" f38) (l38:FQ K f38 "call_right" "call_right" Q61)
  (a39:NI K "range_right" f39) (l39:FQ K f39 "range_right" "range_right" Q5e)
  (a40:NI K "deed_right" f40) (l40:FQ K f40 "deed_right" "deed_right" Q5b)
  (a41:NI K "deeds_right" f41) (l41:FQ K f41 "deeds_right" "deeds_right" Q4f)
  (a42:NI K "notes_right" f42) (l42:FQ K f42 "notes_right" "notes_right" Q52)
  (a43:NI K "right" f43) (l43:FQ K f43 "right" "right" Q4a)
  (a44:FI K C8 "__init__" f44) (i44:IF K f44) (l44:FQ K f44 "__init__" "Hall.__init__" Q6e)
  (a45:FI K C8 "release" f45) (i45:IF K f45) (l45:FQ K f45 "release" "Hall.release" Q7b)
  (a46:FI K C8 "called_at" f46) (i46:IF K f46) (l46:FQ K f46 "called_at" "Hall.called_at" Q78)
  (a47:FI K C8 "release_callers" f47) (i47:IF K f47) (l47:FQ K f47 "release_callers" "Hall.release_callers" Q7e)
  (a48:NI K "same_oath" f48) (l48:FQ K f48 "same_oath" "same_oath" Q81)
  (a49:FI K C8 "lay" f49) (i49:IF K f49) (l49:FQ K f49 "lay" "Hall.lay" Q70)
  (a50:NI K "_law_mix" f50) (l50:FQ K f50 "_law_mix" "_law_mix" Q87)
  (a51:NI K "_law_number" f51) (l51:FQ K f51 "_law_number" "_law_number" Q8a)
  (a52:NI K "_law_line_by" f52) (l52:FQ K f52 "_law_line_by" "_law_line_by" Q8d)
  (a53:NI K "_law_lines_by" f53) (l53:FQ K f53 "_law_lines_by" "_law_lines_by" Q93)
  (a54:NI K "_law_cell_at" f54) (l54:FQ K f54 "_law_cell_at" "_law_cell_at" Q84)
  (a55:NI K "_law_deed_by" f55) (l55:FQ K f55 "_law_deed_by" "_law_deed_by" Q90)
  (a56:NI K "_law_parts_by" f56) (l56:FQ K f56 "_law_parts_by" "_law_parts_by" Q96)
  (a57:NI K "_law_parts_here" f57) (l57:FQ K f57 "_law_parts_here" "_law_parts_here" s_l_parts_here)
  (a58:NI K "_law_worth" f58) (l58:FQ K f58 "_law_worth" "_law_worth" Q9a)
  (a59:NI K "_law_first_false" f59) (l59:FQ K f59 "_law_first_false" "_law_first_false" Q9c)
  (a60:NI K "_law_numbers" f60) (l60:FQ K f60 "_law_numbers" "_law_numbers" Q9f)
  (a61:NI K "_law_comes" f61) (l61:FQ K f61 "_law_comes" "_law_comes" Qa2)
  (a62:NI K "_law_entered" f62) (l62:FQ K f62 "_law_entered" "_law_entered" Qa5)
  (a63:NI K "_law_refused" f63) (l63:FQ K f63 "_law_refused" "_law_refused" Qb1)
  (a64:NI K "_law_alike" f64) (l64:FQ K f64 "_law_alike" "_law_alike" Qad)
  (a65:NI K "_law_whole" f65) (l65:FQ K f65 "_law_whole" "_law_whole" Q99)
  (a66:NI K "_law_same" f66) (l66:FQ K f66 "_law_same" "_law_same" Qaf)
  (a67:NI K "_law_called" f67) (l67:FQ K f67 "_law_called" "_law_called" Qa8)
  (a68:NI K "_law_stepped" f68) (l68:FQ K f68 "_law_stepped" "_law_stepped" Qaa)
  (a69:NI K "law" f69) (l69:FQ K f69 "law" "law" s_law)
  (z_all:nsIn K mainGlobals "all"=some none)
  (z_bool:nsIn K mainGlobals "bool"=some none)
  (z_enumerate:nsIn K mainGlobals "enumerate"=some none)
  (z_int:nsIn K mainGlobals "int"=some none)
  (z_isinstance:nsIn K mainGlobals "isinstance"=some none)
  (z_len:nsIn K mainGlobals "len"=some none)
  (z_list:nsIn K mainGlobals "list"=some none)
  (z_max:nsIn K mainGlobals "max"=some none)
  (z_range:nsIn K mainGlobals "range"=some none)
  (z_sorted:nsIn K mainGlobals "sorted"=some none)
  (z_tuple:nsIn K mainGlobals "tuple"=some none)
  (z_zip:nsIn K mainGlobals "zip"=some none)
  (y_NUMBERS:nsIn K mainGlobals "NUMBERS"=some (some (.int 9 t_NUMBERS)))
  (y_FACTORS:nsIn K mainGlobals "FACTORS"=some (some (.int 8 t_FACTORS)))
  (y_MOST_FRAMES:nsIn K mainGlobals "MOST_FRAMES"=some (some (.int 20 t_MOST_FRAMES)))
  (y_HAND_SPOTS:NI K "HAND_SPOTS" a_HAND_SPOTS) (x_HAND_SPOTS:K.lookup a_HAND_SPOTS=some ⟨.type "tuple",dd_HAND_SPOTS,.seq #[.int 1 t_HAND_SPOTS_0,.int 2 t_HAND_SPOTS_1,.int 3 t_HAND_SPOTS_2,.int 4 t_HAND_SPOTS_3] n_HAND_SPOTS,ss_HAND_SPOTS⟩)
  (y_LEFT_SPOTS:NI K "LEFT_SPOTS" a_LEFT_SPOTS) (x_LEFT_SPOTS:K.lookup a_LEFT_SPOTS=some ⟨.type "tuple",dd_LEFT_SPOTS,.seq #[.int 7 t_LEFT_SPOTS_0,.int 8 t_LEFT_SPOTS_1] n_LEFT_SPOTS,ss_LEFT_SPOTS⟩)
  (y_LEFT_AS_HANDS:NI K "LEFT_AS_HANDS" a_LEFT_AS_HANDS) (x_LEFT_AS_HANDS:K.lookup a_LEFT_AS_HANDS=some ⟨.type "tuple",dd_LEFT_AS_HANDS,.seq #[.int 0 t_LEFT_AS_HANDS_0,.int 1 t_LEFT_AS_HANDS_1,.int 2 t_LEFT_AS_HANDS_2,.int 3 t_LEFT_AS_HANDS_3,.int 4 t_LEFT_AS_HANDS_4,.int 5 t_LEFT_AS_HANDS_5,.int 0 t_LEFT_AS_HANDS_6,.int 1 t_LEFT_AS_HANDS_7] n_LEFT_AS_HANDS,ss_LEFT_AS_HANDS⟩)
  (y_MOST_LINES:nsIn K mainGlobals "MOST_LINES"=some (some (.int 2 t_MOST_LINES)))
  (y_MOST_DEEDS:nsIn K mainGlobals "MOST_DEEDS"=some (some (.int 8 t_MOST_DEEDS)))
  (y_LAST_HAND:nsIn K mainGlobals "LAST_HAND"=some (some (.int 3 t_LAST_HAND)))
  (y_LAST_NUMBER:nsIn K mainGlobals "LAST_NUMBER"=some (some (.int 99 t_LAST_NUMBER)))
  (y_GREATEST_BY:nsIn K mainGlobals "GREATEST_BY"=some (some (.int 1000 t_GREATEST_BY)))
  (y_GREATEST:nsIn K mainGlobals "GREATEST"=some (some (.int 1000000000 t_GREATEST)))
  (y_ASKED_0:nsIn K mainGlobals "ASKED_0"=some (some (.int 4 t_ASKED_0)))
  (y_ASKED_1:nsIn K mainGlobals "ASKED_1"=some (some (.int 5 t_ASKED_1)))
  (y_NEW_0:nsIn K mainGlobals "NEW_0"=some (some (.int 6 t_NEW_0)))
  (y_NEW_1:nsIn K mainGlobals "NEW_1"=some (some (.int 7 t_NEW_1)))
  (y_WHOLES:NI K "WHOLES" a_WHOLES) (x_WHOLES:K.lookup a_WHOLES=some ⟨.type "tuple",dd_WHOLES,.seq #[.int 1 t_WHOLES_0,.int 2 t_WHOLES_1,.int 3 t_WHOLES_2,.int 4 t_WHOLES_3] n_WHOLES,ss_WHOLES⟩)
  (oC0:K.lookup C0=some (PySem.excClassObj xn0 xq0 C0 xN0 xb0 zba xh0 xl0 xs0 xa0 xc0 xd0 x0_0 x1_0 x2_0 x3_0 x5_0 "ValueError.__new__")) (xC0:excIn K C0 zba "ValueError.__new__"=true)
  (oC1:K.lookup C1=some (PySem.excClassObj xn1 xq1 C1 xN1 xb1 (.ref C0::zba) xh1 xl1 xs1 xa1 xc1 xd1 x0_1 x1_1 x2_1 x3_1 x5_1 "ValueError.__new__")) (xC1:excIn K C1 zba "ValueError.__new__"=true)
  (oC2:K.lookup C2=some (PySem.excClassObj xn2 xq2 C2 xN2 xb2 (.ref C0::zba) xh2 xl2 xs2 xa2 xc2 xd2 x0_2 x1_2 x2_2 x3_2 x5_2 "ValueError.__new__")) (xC2:excIn K C2 zba "ValueError.__new__"=true)
  (oC3:K.lookup C3=some (PySem.excClassObj xn3 xq3 C3 xN3 xb3 (.ref C0::zba) xh3 xl3 xs3 xa3 xc3 xd3 x0_3 x1_3 x2_3 x3_3 x5_3 "ValueError.__new__")) (xC3:excIn K C3 zba "ValueError.__new__"=true)
  (oC4:K.lookup C4=some (PySem.excClassObj xn4 xq4 C4 xN4 xb4 (.ref C0::zba) xh4 xl4 xs4 xa4 xc4 xd4 x0_4 x1_4 x2_4 x3_4 x5_4 "ValueError.__new__")) (xC4:excIn K C4 zba "ValueError.__new__"=true)
  (pg5:PySem.W.plainGet K C5 Str.empty=true) (hd5:PySem.W.hasDictIn K C5=true) (po5:PySem.W.plainOver K C5=true) (sa5:findIn K (.ref C5) "__setattr__"=some (some (.builtin "object.__setattr__"))) (mk5:makesIn K C5=true) (kc5:KI K C5)
  (na5_number:findIn K (.ref C5) "number"=some none)
  (na5_place:findIn K (.ref C5) "place"=some none)
  (na5_hands:findIn K (.ref C5) "hands"=some none)
  (na5_asked:findIn K (.ref C5) "asked"=some none)
  (pg6:PySem.W.plainGet K C6 Str.empty=true) (hd6:PySem.W.hasDictIn K C6=true) (po6:PySem.W.plainOver K C6=true) (sa6:findIn K (.ref C6) "__setattr__"=some (some (.builtin "object.__setattr__"))) (mk6:makesIn K C6=true) (kc6:KI K C6)
  (na6_known:findIn K (.ref C6) "known"=some none)
  (na6_inputs_left:findIn K (.ref C6) "inputs_left"=some none)
  (na6_stack:findIn K (.ref C6) "stack"=some none)
  (na6_steps_done:findIn K (.ref C6) "steps_done"=some none)
  (na6_ending:findIn K (.ref C6) "ending"=some none)
  (pg7:PySem.W.plainGet K C7 Str.empty=true) (hd7:PySem.W.hasDictIn K C7=true) (po7:PySem.W.plainOver K C7=true) (sa7:findIn K (.ref C7) "__setattr__"=some (some (.builtin "object.__setattr__"))) (mk7:makesIn K C7=true) (kc7:KI K C7)
  (na7_needs:findIn K (.ref C7) "needs"=some none)
  (na7_leaves:findIn K (.ref C7) "leaves"=some none)
  (na7_deeds:findIn K (.ref C7) "deeds"=some none)
  (na7_notes:findIn K (.ref C7) "notes"=some none)
  (pg8:PySem.W.plainGet K C8 Str.empty=true) (hd8:PySem.W.hasDictIn K C8=true) (po8:PySem.W.plainOver K C8=true) (sa8:findIn K (.ref C8) "__setattr__"=some (some (.builtin "object.__setattr__"))) (mk8:makesIn K C8=true) (kc8:KI K C8)
  (na8_laid:findIn K (.ref C8) "laid"=some none)
  (na8_vouched:findIn K (.ref C8) "vouched"=some none)
  (d_2_4:C2≠C4)
  (d_0_4:C0≠C4) :
  ∃ fd:FuncData,(∀ (s:Shared) (v:Value),BindsTo s fd ⟨[v],[]⟩ [("script",v)])∧∀ base:Heap,K.In base→base.Ns mainGlobals mg→FnOk l.prog w K mg base CX0 11 fa fd ["script"] (sp_law K):=by
 have e:=hfa.symm.trans (mg_of X G a69)
 cases e
 have B:Bl K mg:=⟨mg_none_of X G z_all,mg_none_of X G z_bool,mg_none_of X G z_enumerate,mg_none_of X G z_int,mg_none_of X G z_isinstance,mg_none_of X G z_len,mg_none_of X G z_list,mg_none_of X G z_max,mg_none_of X G z_range,mg_none_of X G z_sorted,mg_none_of X G z_tuple,mg_none_of X G z_zip,⟨_,mg_of X G y_NUMBERS⟩,⟨_,mg_of X G y_FACTORS⟩,⟨_,mg_of X G y_MOST_FRAMES⟩,⟨_,mg_of X G y_MOST_LINES⟩,⟨_,mg_of X G y_MOST_DEEDS⟩,⟨_,mg_of X G y_LAST_HAND⟩,⟨_,mg_of X G y_LAST_NUMBER⟩,⟨_,mg_of X G y_GREATEST_BY⟩,⟨_,mg_of X G y_GREATEST⟩,⟨_,mg_of X G y_ASKED_0⟩,⟨_,mg_of X G y_ASKED_1⟩,⟨_,mg_of X G y_NEW_0⟩,⟨_,mg_of X G y_NEW_1⟩,⟨_,mg_of X G y_HAND_SPOTS,λ_=>.inr ⟨_,_,_,x_HAND_SPOTS,rfl,rfl,zaC (by simp),.cons ⟨_,rfl⟩ (.cons ⟨_,rfl⟩ (.cons ⟨_,rfl⟩ (.cons ⟨_,rfl⟩ (.nil))))⟩⟩,⟨_,mg_of X G y_LEFT_SPOTS,λ_=>.inr ⟨_,_,_,x_LEFT_SPOTS,rfl,rfl,zaC (by simp),.cons ⟨_,rfl⟩ (.cons ⟨_,rfl⟩ (.nil))⟩⟩,⟨_,mg_of X G y_LEFT_AS_HANDS,λ_=>.inr ⟨_,_,_,x_LEFT_AS_HANDS,rfl,rfl,zaC (by simp),.cons ⟨_,rfl⟩ (.cons ⟨_,rfl⟩ (.cons ⟨_,rfl⟩ (.cons ⟨_,rfl⟩ (.cons ⟨_,rfl⟩ (.cons ⟨_,rfl⟩ (.cons ⟨_,rfl⟩ (.cons ⟨_,rfl⟩ (.nil))))))))⟩⟩,⟨_,mg_of X G y_WHOLES,λ_=>.inr ⟨_,_,_,x_WHOLES,rfl,rfl,zaC (by simp),.cons ⟨_,rfl⟩ (.cons ⟨_,rfl⟩ (.cons ⟨_,rfl⟩ (.cons ⟨_,rfl⟩ (.nil))))⟩⟩⟩
 have Z:Zt K mg (λi=>[C0,C1,C2,C3,C4,C5,C6,C7,C8].getD i 0):=⟨⟨⟨_,_,_,_,_,_,_,_,_,_,_,_,_,_,_,oC0⟩,xC0⟩,mg_of X G aC0,⟨⟨_,_,_,_,_,_,_,_,_,_,_,_,_,_,_,oC1⟩,xC1⟩,mg_of X G aC1,⟨⟨_,_,_,_,_,_,_,_,_,_,_,_,_,_,_,oC2⟩,xC2⟩,mg_of X G aC2,⟨⟨_,_,_,_,_,_,_,_,_,_,_,_,_,_,_,oC3⟩,xC3⟩,mg_of X G aC3,⟨⟨_,_,_,_,_,_,_,_,_,_,_,_,_,_,_,oC4⟩,xC4⟩,mg_of X G aC4,⟨pg5,hd5,po5,sa5⟩,mg_of X G aC5,na5_number,na5_place,na5_hands,na5_asked,⟨pg6,hd6,po6,sa6⟩,mg_of X G aC6,na6_known,na6_inputs_left,na6_stack,na6_steps_done,na6_ending,⟨pg7,hd7,po7,sa7⟩,mg_of X G aC7,na7_needs,na7_leaves,na7_deeds,na7_notes,⟨pg8,hd8,po8,sa8⟩,mg_of X G aC8,na8_laid,na8_vouched,d_2_4,d_0_4⟩
 obtain⟨_,F1⟩:=zaQ l1
 obtain⟨_,F2⟩:=zaQ l2
 obtain⟨_,F3⟩:=zaQ l3
 obtain⟨_,F4⟩:=zaQ l4
 obtain⟨_,F5⟩:=zaQ l5
 obtain⟨_,F6⟩:=zaQ l6
 obtain⟨_,F7⟩:=zaQ l7
 obtain⟨_,F8⟩:=zaQ l8
 obtain⟨_,F9⟩:=zaQ l9
 obtain⟨_,F10⟩:=zaQ l10
 obtain⟨_,F11⟩:=zaQ l11
 obtain⟨_,F12⟩:=zaQ l12
 obtain⟨_,F13⟩:=zaQ l13
 obtain⟨_,F14⟩:=zaQ l14
 obtain⟨_,F15⟩:=zaQ l15
 obtain⟨_,F16⟩:=zaQ l16
 obtain⟨_,F17⟩:=zaQ l17
 obtain⟨_,F18⟩:=zaQ l18
 obtain⟨_,F19⟩:=zaQ l19
 obtain⟨_,F20⟩:=zaQ l20
 obtain⟨_,F21⟩:=zaQ l21
 obtain⟨_,F22⟩:=zaQ l22
 obtain⟨_,F23⟩:=zaQ l23
 obtain⟨_,F24⟩:=zaQ l24
 obtain⟨_,F25⟩:=zaQ l25
 obtain⟨_,F26⟩:=zaQ l26
 obtain⟨_,F27⟩:=zaQ l27
 obtain⟨_,F28⟩:=zaQ l28
 obtain⟨_,F29⟩:=zaQ l29
 obtain⟨_,F30⟩:=zaQ l30
 obtain⟨_,F31⟩:=zaQ l31
 obtain⟨_,F32⟩:=zaQ l32
 obtain⟨_,F33⟩:=zaQ l33
 obtain⟨_,F34⟩:=zaQ l34
 obtain⟨_,F35⟩:=zaQ l35
 obtain⟨_,F36⟩:=zaQ l36
 obtain⟨_,F37⟩:=zaQ l37
 obtain⟨_,F38⟩:=zaQ l38
 obtain⟨_,F39⟩:=zaQ l39
 obtain⟨_,F40⟩:=zaQ l40
 obtain⟨_,F41⟩:=zaQ l41
 obtain⟨_,F42⟩:=zaQ l42
 obtain⟨_,F43⟩:=zaQ l43
 obtain⟨_,F44⟩:=zaQ l44
 obtain⟨_,F45⟩:=zaQ l45
 obtain⟨_,F46⟩:=zaQ l46
 obtain⟨_,F47⟩:=zaQ l47
 obtain⟨_,F48⟩:=zaQ l48
 obtain⟨_,F49⟩:=zaQ l49
 obtain⟨_,F50⟩:=zaQ l50
 obtain⟨_,F51⟩:=zaQ l51
 obtain⟨_,F52⟩:=zaQ l52
 obtain⟨_,F53⟩:=zaQ l53
 obtain⟨_,F54⟩:=zaQ l54
 obtain⟨_,F55⟩:=zaQ l55
 obtain⟨_,F56⟩:=zaQ l56
 obtain⟨_,F57⟩:=zaQ l57
 obtain⟨_,F58⟩:=zaQ l58
 obtain⟨_,F59⟩:=zaQ l59
 obtain⟨_,F60⟩:=zaQ l60
 obtain⟨_,F61⟩:=zaQ l61
 obtain⟨_,F62⟩:=zaQ l62
 obtain⟨_,F63⟩:=zaQ l63
 obtain⟨_,F64⟩:=zaQ l64
 obtain⟨_,F65⟩:=zaQ l65
 obtain⟨_,F66⟩:=zaQ l66
 obtain⟨_,F67⟩:=zaQ l67
 obtain⟨_,F68⟩:=zaQ l68
 obtain⟨_,_,_,kV,dc,pm,an,cd,ct,l69,c69,k69⟩:=l69
 have F69:=zm9 (st:=s_law) l69 c69 k69
 refine⟨fnOf "law" "law" (zcW s_law) (zb7 s_law) (zai s_law) .none kV dc pm an cd ct,λs v=>.of_eq rfl,λbase _ _=>?_⟩
 have G1:=zfP (P:=l.prog) (w:=w) (base:=base) B Z  F1 (mg_of X G a1)
 have G2:=zf6 (P:=l.prog) (w:=w) (base:=base) B Z  F2 (mg_of X G a2)
 have G3:=zmN (P:=l.prog) (w:=w) (base:=base) B Z G1 G2 F3 ⟨mk7,a3,i3,kc7⟩
 have G4:=zmO (P:=l.prog) (w:=w) (base:=base) B Z  F4 (mg_of X G a4)
 have G5:=zmP (P:=l.prog) (w:=w) (base:=base) B Z G4 F5 (mg_of X G a5)
 have G6:=zmQ (P:=l.prog) (w:=w) (base:=base) B Z  F6 ⟨mk5,a6,i6,kc5⟩
 have G7:=zeY (P:=l.prog) (w:=w) (base:=base) B Z  F7 ⟨a7,i7,F7.kp⟩
 have G8:=zeZ (P:=l.prog) (w:=w) (base:=base) B Z  F8 ⟨a8,i8,F8.kp⟩
 have G9:=zfQ (P:=l.prog) (w:=w) (base:=base) B Z G3 F9 (mg_of X G a9)
 have G10:=zf7 (P:=l.prog) (w:=w) (base:=base) B Z G8 G9 F10 ⟨a10,i10,F10.kp⟩
 have G11:=zfR (P:=l.prog) (w:=w) (base:=base) B Z  F11 ⟨a11,i11,F11.kp⟩
 have G12:=zcw (P:=l.prog) (w:=w) (base:=base) B Z G11 F12 ⟨a12,i12,F12.kp⟩
 have G13:=zf8 (P:=l.prog) (w:=w) (base:=base) B Z G5 F13 (mg_of X G a13)
 have G14:=zh2 (P:=l.prog) (w:=w) (base:=base) B Z G13 F14 ⟨a14,i14,F14.kp⟩
 have G15:=ziU (P:=l.prog) (w:=w) (base:=base) B Z G11 F15 ⟨a15,i15,F15.kp⟩
 have G16:=zh3 (P:=l.prog) (w:=w) (base:=base) B Z G14 G15 G7 G11 F16 ⟨a16,i16,F16.kp⟩
 have G17:=zeF (P:=l.prog) (w:=w) (base:=base) B Z G14 G7 G11 F17 ⟨a17,i17,F17.kp⟩
 have G18:=zf9 (P:=l.prog) (w:=w) (base:=base) B Z G12 G16 G17 F18 ⟨a18,i18,F18.kp⟩
 have G19:=zh4 (P:=l.prog) (w:=w) (base:=base) B Z G18 G6 F19 ⟨a19,i19,F19.kp⟩
 have G20:=ze0 (P:=l.prog) (w:=w) (base:=base) B Z  F20 (mg_of X G a20)
 have G21:=zqc (P:=l.prog) (w:=w) (base:=base) B Z G10 G19 G13 G20 F21 ⟨mk6,a21,i21,kc6⟩
 have G22:=zkh (P:=l.prog) (w:=w) (base:=base) B Z G18 F22 ⟨a22,i22,F22.kp⟩
 have G23:=ziV (P:=l.prog) (w:=w) (base:=base) B Z G22 F23 ⟨a23,i23,F23.kp⟩
 have G24:=ziW (P:=l.prog) (w:=w) (base:=base) B Z G14 G7 G18 F24 ⟨a24,i24,F24.kp⟩
 have G25:=ziX (P:=l.prog) (w:=w) (base:=base) B Z G14 G20 G19 F25 ⟨a25,i25,F25.kp⟩
 have G26:=ziY (P:=l.prog) (w:=w) (base:=base) B Z G22 G11 G4 G7 G23 G18 G24 G25 G5 F26 ⟨a26,i26,F26.kp⟩
 have G27:=zlJ (P:=l.prog) (w:=w) (base:=base) B Z G26 F27 ⟨a27,i27,F27.kp⟩
 have G28:=zh5 (P:=l.prog) (w:=w) (base:=base) B Z  F28 ⟨a28,i28,F28.kp⟩
 have G29:=zgU (P:=l.prog) (w:=w) (base:=base) B Z  F29 ⟨a29,i29,F29.kp⟩
 have G30:=zh6 (P:=l.prog) (w:=w) (base:=base) B Z  F30 (mg_of X G a30)
 have G31:=zki (P:=l.prog) (w:=w) (base:=base) B Z  F31 (mg_of X G a31)
 have G32:=zfS (P:=l.prog) (w:=w) (base:=base) B Z G31 F32 (mg_of X G a32)
 have G33:=zgV (P:=l.prog) (w:=w) (base:=base) B Z G32 F33 (mg_of X G a33)
 have G34:=zga (P:=l.prog) (w:=w) (base:=base) B Z G33 F34 (mg_of X G a34)
 have G35:=zgW (P:=l.prog) (w:=w) (base:=base) B Z G34 F35 (mg_of X G a35)
 have G36:=zgX (P:=l.prog) (w:=w) (base:=base) B Z G31 F36 (mg_of X G a36)
 have G37:=zes (P:=l.prog) (w:=w) (base:=base) B Z G36 F37 (mg_of X G a37)
 have G38:=zgY (P:=l.prog) (w:=w) (base:=base) B Z G37 G31 F38 (mg_of X G a38)
 have G39:=zgb (P:=l.prog) (w:=w) (base:=base) B Z G32 F39 (mg_of X G a39)
 have G40:=zg0 (P:=l.prog) (w:=w) (base:=base) B Z G38 G33 G36 G31 G39 F40 (mg_of X G a40)
 have G41:=zgc (P:=l.prog) (w:=w) (base:=base) B Z G31 G40 F41 (mg_of X G a41)
 have G42:=zgd (P:=l.prog) (w:=w) (base:=base) B Z G34 F42 (mg_of X G a42)
 have G43:=zmT (P:=l.prog) (w:=w) (base:=base) B Z G35 G41 G42 F43 (mg_of X G a43)
 have G44:=zow (P:=l.prog) (w:=w) (base:=base) B Z  F44 ⟨mk8,a44,i44,kc8⟩
 have G45:=zfU (P:=l.prog) (w:=w) (base:=base) B Z  F45 ⟨a45,i45,F45.kp⟩
 have G46:=zeH (P:=l.prog) (w:=w) (base:=base) B Z G30 F46 ⟨a46,i46,F46.kp⟩
 have G47:=zc8 (P:=l.prog) (w:=w) (base:=base) B Z G46 G45 F47 ⟨a47,i47,F47.kp⟩
 have G48:=zh7 (P:=l.prog) (w:=w) (base:=base) B Z  F48 (mg_of X G a48)
 have G49:=zi1 (P:=l.prog) (w:=w) (base:=base) B Z G45 G9 G43 G47 G48 F49 ⟨a49,i49,F49.kp⟩
 have G50:=zmU (P:=l.prog) (w:=w) (base:=base) B Z  F50 (mg_of X G a50)
 have G51:=zi2 (P:=l.prog) (w:=w) (base:=base) B Z G50 F51 (mg_of X G a51)
 have G52:=zh8 (P:=l.prog) (w:=w) (base:=base) B Z G51 G50 F52 (mg_of X G a52)
 have G53:=zg1 (P:=l.prog) (w:=w) (base:=base) B Z G52 G50 F53 (mg_of X G a53)
 have G54:=zh9 (P:=l.prog) (w:=w) (base:=base) B Z  F54 (mg_of X G a54)
 have G55:=zia (P:=l.prog) (w:=w) (base:=base) B Z G52 G50 G51 F55 (mg_of X G a55)
 have G56:=zg2 (P:=l.prog) (w:=w) (base:=base) B Z G53 G54 G55 F56 (mg_of X G a56)
 have G57:=zfV (P:=l.prog) (w:=w) (base:=base) B Z G56 G54 F57 (mg_of X G a57)
 have G58:=zkk (P:=l.prog) (w:=w) (base:=base) B Z  F58 (mg_of X G a58)
 have G59:=ze1 (P:=l.prog) (w:=w) (base:=base) B Z G58 F59 (mg_of X G a59)
 have G60:=zib (P:=l.prog) (w:=w) (base:=base) B Z  F60 (mg_of X G a60)
 have G61:=zkl (P:=l.prog) (w:=w) (base:=base) B Z G59 G60 F61 (mg_of X G a61)
 have G62:=zic (P:=l.prog) (w:=w) (base:=base) B Z G61 F62 (mg_of X G a62)
 have G63:=zid (P:=l.prog) (w:=w) (base:=base) B Z G21 F63 (mg_of X G a63)
 have G64:=zkm (P:=l.prog) (w:=w) (base:=base) B Z  F64 (mg_of X G a64)
 have G65:=zkn (P:=l.prog) (w:=w) (base:=base) B Z  F65 (mg_of X G a65)
 have G66:=zlN (P:=l.prog) (w:=w) (base:=base) B Z G29 G65 G28 F66 (mg_of X G a66)
 have G67:=zi3 (P:=l.prog) (w:=w) (base:=base) B Z G59 G62 F67 (mg_of X G a67)
 have G68:=zig (P:=l.prog) (w:=w) (base:=base) B Z G61 G67 G58 G60 F68 (mg_of X G a68)
 exact zqe B Z G57 G44 G49 G21 G62 G3 G51 G63 G59 G50 G54 G64 G66 G68 G27 F69
end My

open PySem PySem.W PyProof.Rows
open My L2
set_option maxRecDepth 1000000 in
set_option maxHeartbeats 0 in
theorem PySem.Challenge.cw_swornhall_k15_steps_of_one_holds : PySem.Challenge.rw_swornhall_k15_steps_of_one.Holds := by
  refine PySem.Challenge.hd_swornhall_k15_steps_of_one fun d kwd hdef => ?_
  obtain ⟨rfl, rfl⟩ := Prod.mk.inj (Option.some.inj ((show defOf My.Qv PySem.Challenge.rw_swornhall_k15_steps_of_one.row.name = some (_, _) from rfl).symm.trans hdef))
  refine L2.walk_ofE (l := PySem.Challenge.rw_swornhall_k15_steps_of_one) (n := 63) (k := 11) (x := "script") (CX := L2.CX0) (sp := My.sp_law) (S := fun K => ((My.zBoo K).all id, My.zSee K) = (true, My.zSig)) rfl (by decide) rfl ⟨rfl, by decide, by decide, rfl⟩ (fun w h Y => Y) ?F (fun _ _ a ns hl _ hS => ⟨a, ns, rfl, hS, hl, fun _ => rfl⟩) (fun _ _ _ _ z => z)
  intro w K mg fa h hA KX G hmg
  obtain⟨_,_,_,xa_HAND_SPOTS⟩:=L2.tup_of (bA hA 190 rfl)
  obtain⟨_,_,_,xa_LEFT_SPOTS⟩:=L2.tup_of (bA hA 192 rfl)
  obtain⟨_,_,_,xa_LEFT_AS_HANDS⟩:=L2.tup_of (bA hA 194 rfl)
  obtain⟨_,_,_,xa_WHOLES⟩:=L2.tup_of (bA hA 206 rfl)
  obtain⟨_,_,_,_,_,_,_,_,_,_,_,_,_,_,_,o0⟩:=L2.exc_of (bA hA 207 rfl)
  obtain⟨_,_,_,_,_,_,_,_,_,_,_,_,_,_,_,o1⟩:=L2.exc_of (bA hA 209 rfl)
  obtain⟨_,_,_,_,_,_,_,_,_,_,_,_,_,_,_,o2⟩:=L2.exc_of (bA hA 211 rfl)
  obtain⟨_,_,_,_,_,_,_,_,_,_,_,_,_,_,_,o3⟩:=L2.exc_of (bA hA 213 rfl)
  obtain⟨_,_,_,_,_,_,_,_,_,_,_,_,_,_,_,o4⟩:=L2.exc_of (bA hA 215 rfl)
  exact My.all_mk KX G hmg (eA hA 0 rfl) (eA hA 1 rfl) (eA hA 2 rfl) (eA hA 3 rfl) (eA hA 4 rfl) (eA hA 5 rfl) (eA hA 6 rfl) (eA hA 7 rfl) (eA hA 8 rfl) (eA hA 9 rfl) (fA hA 0 10 313 "copied_lines" "copied_lines" Q3e rfl rfl rfl) (eA hA 11 rfl) (fA hA 1 12 318 "copied_deed" "copied_deed" Q41 rfl rfl rfl) (eA hA 13 rfl) (bA hA 14 rfl) (fA hA 2 15 301 "__init__" "Craft.__init__" Q3c rfl rfl rfl) (eA hA 16 rfl) (fA hA 3 17 89 "worth" "worth" Q0 rfl rfl rfl) (eA hA 18 rfl) (fA hA 4 19 96 "holds" "holds" Q3 rfl rfl rfl) (eA hA 20 rfl) (bA hA 21 rfl) (fA hA 5 22 127 "__init__" "Frame.__init__" Q5 rfl rfl rfl) (eA hA 23 rfl) (bA hA 24 rfl) (fA hA 6 25 134 "numbers" "Frame.numbers" Q7 rfl rfl rfl) (eA hA 26 rfl) (bA hA 27 rfl) (fA hA 7 28 540 "standing" "Hall.standing" Q72 rfl rfl rfl) (eA hA 29 rfl) (fA hA 8 30 325 "copied_craft" "copied_craft" Q44 rfl rfl rfl) (eA hA 31 rfl) (bA hA 32 rfl) (fA hA 9 33 547 "crafts" "Hall.crafts" Q75 rfl rfl rfl) (eA hA 34 rfl) (bA hA 35 rfl) (fA hA 10 36 258 "craft_of" "Run.craft_of" Q30 rfl rfl rfl) (eA hA 37 rfl) (bA hA 38 rfl) (fA hA 11 39 230 "is_behind_last_deed" "Run.is_behind_last_deed" Q25 rfl rfl rfl) (eA hA 40 rfl) (fA hA 12 41 279 "first_unmet" "first_unmet" Q36 rfl rfl rfl) (eA hA 42 rfl) (bA hA 43 rfl) (fA hA 13 44 265 "meets" "Run.meets" Q33 rfl rfl rfl) (eA hA 45 rfl) (bA hA 46 rfl) (fA hA 14 47 251 "take" "Run.take" Q2e rfl rfl rfl) (eA hA 48 rfl) (bA hA 49 rfl) (fA hA 15 50 244 "leave" "Run.leave" Q2b rfl rfl rfl) (eA hA 51 rfl) (bA hA 52 rfl) (fA hA 16 53 237 "meet_notes" "Run.meet_notes" Q28 rfl rfl rfl) (eA hA 54 rfl) (bA hA 55 rfl) (fA hA 17 56 223 "come_to" "Run.come_to" Q22 rfl rfl rfl) (eA hA 57 rfl) (bA hA 58 rfl) (fA hA 18 59 216 "begin" "Run.begin" Q1f rfl rfl rfl) (eA hA 60 rfl) (fA hA 19 61 286 "asked_numbers" "asked_numbers" Q39 rfl rfl rfl) (eA hA 62 rfl) (bA hA 63 rfl) (fA hA 20 64 155 "__init__" "Run.__init__" Qa rfl rfl rfl) (eA hA 65 rfl) (bA hA 66 rfl) (fA hA 21 67 188 "put" "Run.put" Q16 rfl rfl rfl) (eA hA 68 rfl) (bA hA 69 rfl) (fA hA 22 70 195 "draw" "Run.draw" Q19 rfl rfl rfl) (eA hA 71 rfl) (bA hA 72 rfl) (fA hA 23 73 202 "hold" "Run.hold" Q1b rfl rfl rfl) (eA hA 74 rfl) (bA hA 75 rfl) (fA hA 24 76 209 "call" "Run.call" Q1d rfl rfl rfl) (eA hA 77 rfl) (bA hA 78 rfl) (fA hA 25 79 181 "step" "Run.step" Q14 rfl rfl rfl) (eA hA 80 rfl) (bA hA 81 rfl) (fA hA 26 82 162 "go" "Run.go" Qc rfl rfl rfl) (eA hA 83 rfl) (bA hA 84 rfl) (fA hA 27 85 169 "steps" "Run.steps" Qe rfl rfl rfl) (eA hA 86 rfl) (bA hA 87 rfl) (fA hA 28 88 174 "frames" "Run.frames" Q11 rfl rfl rfl) (eA hA 89 rfl) (fA hA 29 90 330 "called_by" "called_by" Q47 rfl rfl rfl) (eA hA 91 rfl) (fA hA 30 92 411 "between" "between" Q6b rfl rfl rfl) (eA hA 93 rfl) (fA hA 31 94 404 "small_enough" "small_enough" Q69 rfl rfl rfl) (eA hA 95 rfl) (fA hA 32 96 364 "line_right" "line_right" Q58 rfl rfl rfl) (eA hA 97 rfl) (fA hA 33 98 359 "lines_right" "lines_right" Q55 rfl rfl rfl) (eA hA 99 rfl) (fA hA 34 100 344 "oath_right" "oath_right" Q4c rfl rfl rfl) (eA hA 101 rfl) (fA hA 35 102 397 "hand_right" "hand_right" Q67 rfl rfl rfl) (eA hA 103 rfl) (fA hA 36 104 390 "two_hands_right" "two_hands_right" Q64 rfl rfl rfl) (eA hA 105 rfl) (fA hA 37 106 385 "call_right" "call_right" Q61 rfl rfl rfl) (eA hA 107 rfl) (fA hA 38 108 378 "range_right" "range_right" Q5e rfl rfl rfl) (eA hA 109 rfl) (fA hA 39 110 371 "deed_right" "deed_right" Q5b rfl rfl rfl) (eA hA 111 rfl) (fA hA 40 112 349 "deeds_right" "deeds_right" Q4f rfl rfl rfl) (eA hA 113 rfl) (fA hA 41 114 354 "notes_right" "notes_right" Q52 rfl rfl rfl) (eA hA 115 rfl) (fA hA 42 116 337 "right" "right" Q4a rfl rfl rfl) (eA hA 117 rfl) (bA hA 118 rfl) (fA hA 43 119 519 "__init__" "Hall.__init__" Q6e rfl rfl rfl) (eA hA 120 rfl) (bA hA 121 rfl) (fA hA 44 122 608 "release" "Hall.release" Q7b rfl rfl rfl) (eA hA 123 rfl) (bA hA 124 rfl) (fA hA 45 125 601 "called_at" "Hall.called_at" Q78 rfl rfl rfl) (eA hA 126 rfl) (bA hA 127 rfl) (fA hA 46 128 615 "release_callers" "Hall.release_callers" Q7e rfl rfl rfl) (eA hA 129 rfl) (fA hA 47 130 629 "same_oath" "same_oath" Q81 rfl rfl rfl) (eA hA 131 rfl) (bA hA 132 rfl) (fA hA 48 133 526 "lay" "Hall.lay" Q70 rfl rfl rfl) (eA hA 134 rfl) (fA hA 49 135 643 "_law_mix" "_law_mix" Q87 rfl rfl rfl) (eA hA 136 rfl) (fA hA 50 137 650 "_law_number" "_law_number" Q8a rfl rfl rfl) (eA hA 138 rfl) (fA hA 51 139 655 "_law_line_by" "_law_line_by" Q8d rfl rfl rfl) (eA hA 140 rfl) (fA hA 52 141 667 "_law_lines_by" "_law_lines_by" Q93 rfl rfl rfl) (eA hA 142 rfl) (fA hA 53 143 636 "_law_cell_at" "_law_cell_at" Q84 rfl rfl rfl) (eA hA 144 rfl) (fA hA 54 145 662 "_law_deed_by" "_law_deed_by" Q90 rfl rfl rfl) (eA hA 146 rfl) (fA hA 55 147 672 "_law_parts_by" "_law_parts_by" Q96 rfl rfl rfl) (eA hA 148 rfl) (fA hA 56 149 752 "_law_parts_here" "_law_parts_here" s_l_parts_here rfl rfl rfl) (eA hA 150 rfl) (fA hA 57 151 686 "_law_worth" "_law_worth" Q9a rfl rfl rfl) (eA hA 152 rfl) (fA hA 58 153 693 "_law_first_false" "_law_first_false" Q9c rfl rfl rfl) (eA hA 154 rfl) (fA hA 59 155 700 "_law_numbers" "_law_numbers" Q9f rfl rfl rfl) (eA hA 156 rfl) (fA hA 60 157 707 "_law_comes" "_law_comes" Qa2 rfl rfl rfl) (eA hA 158 rfl) (fA hA 61 159 714 "_law_entered" "_law_entered" Qa5 rfl rfl rfl) (eA hA 160 rfl) (fA hA 62 161 747 "_law_refused" "_law_refused" Qb1 rfl rfl rfl) (eA hA 162 rfl) (fA hA 63 163 735 "_law_alike" "_law_alike" Qad rfl rfl rfl) (eA hA 164 rfl) (fA hA 64 165 679 "_law_whole" "_law_whole" Q99 rfl rfl rfl) (eA hA 166 rfl) (fA hA 65 167 740 "_law_same" "_law_same" Qaf rfl rfl rfl) (eA hA 168 rfl) (fA hA 66 169 721 "_law_called" "_law_called" Qa8 rfl rfl rfl) (eA hA 170 rfl) (fA hA 67 171 728 "_law_stepped" "_law_stepped" Qaa rfl rfl rfl) (eA hA 172 rfl) (fA hA 68 173 757 "law" "law" s_law rfl rfl rfl) (eA hA 174 rfl) (eA hA 175 rfl) (eA hA 176 rfl) (eA hA 177 rfl) (eA hA 178 rfl) (eA hA 179 rfl) (eA hA 180 rfl) (eA hA 181 rfl) (eA hA 182 rfl) (eA hA 183 rfl) (eA hA 184 rfl) (eA hA 185 rfl) (eA hA 186 rfl) (eA hA 187 rfl) (eA hA 188 rfl) (eA hA 189 rfl) xa_HAND_SPOTS (eA hA 191 rfl) xa_LEFT_SPOTS (eA hA 193 rfl) xa_LEFT_AS_HANDS (eA hA 195 rfl) (eA hA 196 rfl) (eA hA 197 rfl) (eA hA 198 rfl) (eA hA 199 rfl) (eA hA 200 rfl) (eA hA 201 rfl) (eA hA 202 rfl) (eA hA 203 rfl) (eA hA 204 rfl) (eA hA 205 rfl) xa_WHOLES o0 (bA hA 208 rfl) o1 (bA hA 210 rfl) o2 (bA hA 212 rfl) o3 (bA hA 214 rfl) o4 (bA hA 216 rfl) (bA hA 217 rfl) (bA hA 218 rfl) (bA hA 219 rfl) (eA hA 220 rfl) (bA hA 221 rfl) (bA hA 222 rfl) (eA hA 223 rfl) (eA hA 224 rfl) (eA hA 225 rfl) (eA hA 226 rfl) (bA hA 227 rfl) (bA hA 228 rfl) (bA hA 229 rfl) (eA hA 230 rfl) (bA hA 231 rfl) (bA hA 232 rfl) (eA hA 233 rfl) (eA hA 234 rfl) (eA hA 235 rfl) (eA hA 236 rfl) (eA hA 237 rfl) (bA hA 238 rfl) (bA hA 239 rfl) (bA hA 240 rfl) (eA hA 241 rfl) (bA hA 242 rfl) (bA hA 243 rfl) (eA hA 244 rfl) (eA hA 245 rfl) (eA hA 246 rfl) (eA hA 247 rfl) (bA hA 248 rfl) (bA hA 249 rfl) (bA hA 250 rfl) (eA hA 251 rfl) (bA hA 252 rfl) (bA hA 253 rfl) (eA hA 254 rfl) (eA hA 255 rfl) (by decide) (by decide)

