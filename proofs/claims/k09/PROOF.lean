import PyProof.Rows.All
import Wide.All
import Wide.FinOn
import OpenK.KLine
import OpenK.KMore
import OpenK.KDescr
import OpenK.KOwn
import OpenK.KCls
import KE.KIsAll
import KE.KRevIter
import KE.KDictList
import KE.KIsNot
import KE.KItem
import KE.KDictSum
import KE.KDictOf
import KE.KxBytes
import KE.KFromBytes
import Open.FastRun
import PySem.Challenge.RW_swornhall_k09_duties
set_option Elab.async false
set_option linter.all false
set_option maxRecDepth 100000
abbrev Fg:=PySem.W.Frag
theorem zgm {α : Type _} {β : Type _} {f : α → β} {l : List α} {i : Nat} : (l.map f)[i]? = l[i]?.map f := List.getElem?_map
theorem zlm {α : Type _} {β : Type _} {as : List α} (f : α → β) : (as.map f).length = as.length := List.length_map f
theorem zme {α : Type _} {β : Type _} {f : α → β} {o : Option α} {b : β} : o.map f = some b ↔ ∃ a, o = some a ∧ f a = b := Option.map_eq_some_iff
theorem zmg {α : Type _} {l : List α} {i : Nat} {a : α} (e : l[i]? = some a) : a ∈ l := List.mem_of_getElem? e
theorem zms {α : Type _} {a b : α} : a ∈ [b] ↔ a = b := List.mem_singleton
theorem zst {α : Type _} {l : List α} : l.toArray.size = l.length := List.size_toArray
theorem zma {α : Type _} {a : α} {s t : List α} : a ∈ s ++ t ↔ a ∈ s ∨ a ∈ t := List.mem_append
theorem zge {α : Type _} {l : List α} {i : Nat} {a : α} : l[i]? = some a ↔ ∃ h : i < l.length, l[i] = a := List.getElem?_eq_some_iff
theorem zmc {α : Type _} {β : Type _} {f : α → β} {a : α} {l : List α} : (a :: l).map f = f a :: l.map f := List.map_cons
theorem zmm {α : Type _} {β : Type _} {f : α → β} {l : List α} {b : β} : b ∈ l.map f ↔ ∃ a, a ∈ l ∧ f a = b := List.mem_map
namespace L2
open PySem PySem.Spec PySem.Calls PyProof.Rows PySem.W
abbrev zcJ:List Value:=[.type "ValueError",.type "Exception",.type "BaseException",.type "object"]
def zlx (s:Stmt) (j:Nat):Stmt:=match s with
 | .ClassDef _ _ _ body _ _ _ _ _ _ _=>body.getD j (.Pass ⟨0,0,0,0⟩)
 | _=>.Pass ⟨0,0,0,0⟩
def zay (s:Stmt):Arguments:=match s with
 | .FunctionDef _ a _ _ _ _ _ _ _ _=>a
 | _=>{posonlyargs:=[],args:=[],vararg:=none,kwonlyargs:=[],kw_defaults:=[],kwarg:=none,defaults:=[]}
def zat (s:Stmt):List Stmt:=match s with
 | .FunctionDef _ _ b _ _ _ _ _ _ _=>b
 | _=>[]
def zaf (s:Stmt):Scope:=match s with
 | .FunctionDef _ _ _ _ _ _ sc _ _ _=>sc
 | _=>{kind:=.function,names:=[],isGenerator:=false,isCoroutine:=false}
def Kof (as:List Addr) (h:Heap):Fg:=as.filterMap λa=>(h.get? a).map λo=>(a,o)
theorem zk6 (h:Heap):∀ as:List Addr,(Kof as h).In h
 | []=>λa o e=>by cases e
 | b::as=>λa o e=>by
  have ih:=zk6 h as
  unfold Kof at e
  rw[List.filterMap_cons] at e
  cases hb:h.get? b with
  | none=>rw[hb] at e;exact ih a o e
  | some ob=>
   rw[hb] at e
   simp only[Option.map_some] at e
   rw[List.lookup_cons] at e
   by_cases z:(a == b)=true
   ·rw[z] at e
    cases e
    rw[eq_of_beq z];exact hb
   ·rw[Bool.not_eq_true] at z
    rw[z] at e
    exact ih a o e
abbrev Sig:=Str × Str × Arguments × FuncBody × Scope × Addr × List (Str × Addr) × Value × Addr
def zly (name qual:Str) (params:Arguments) (body:List Stmt) (scope:Scope):Sig:=(name,qual,params,.stmts body,scope,mainGlobals,[],.none,builtinsNs)
def zbc (K:Fg) (a:Addr):Option Sig:=match K.lookup a with
 | some ⟨_,_,.func f,_⟩=>some (f.name,f.qualname,f.params,f.body,f.scope,f.globals,f.closure,f.defaults,f.builtins)
 | _=>none
def zaD (K:Fg) (a:Addr) (q:Str):Bool:=match K.lookup a with
 | some ⟨_,_,.func f,_⟩=>codeIn K f.code q && keepIn K (.ref a)
 | _=>false
def zhF (K:Fg) (C:Addr) (bm:List Value) (newId:String):Bool:=match K.lookup C with
 | some ⟨cl,_,.cls c,sl⟩=>cl == .type "type" && c.mro == .ref C::bm && !c.hasDel && (match sl.toList with
  | [_,_,_,_,some v,_]=>v == .builtin newId
  | _=>false)
 | _=>false
def ziX (K:Fg) (a:Addr) (vs:List Value):Bool:=match K.lookup a with
 | some ⟨cl,_,.seq xs _,_⟩=>cl == .type "tuple" && xs.toList == vs
 | _=>false
def eHook {β:Type}(as:List Addr) (see:Fg→β) (due:β):Hook:=
 ⟨β,λs=>see (Kof as s.heap),λ_=>due,λ_ h=>∃ K:Fg,K.In h∧see K=due,λ_ s e=>⟨_,zk6 _ _,e⟩,λ_ _ _ ⟨K,x,e⟩ k=>⟨K,x.keeps k,e⟩⟩
end L2
namespace My
open PySem L2 PyProof.Rows
def top (i:Nat):Stmt:=PySem.Challenge.pw_swornhall_k09_duties.main.body.getD i (.Pass ⟨0,0,0,0⟩)
abbrev s_bare:Stmt:=top 3
abbrev s_summed:Stmt:=top 4
abbrev s_turned:Stmt:=top 5
abbrev s_Craft___init__:Stmt:=zlx (top 8) 0
abbrev s_copied_lines:Stmt:=top 9
abbrev s_copied_deed:Stmt:=top 10
abbrev s_called_by:Stmt:=top 11
abbrev s_between:Stmt:=top 12
abbrev s_due_at:Stmt:=top 13
abbrev s_duties:Stmt:=top 22
abbrev s_first_duties:Stmt:=top 23
abbrev s_deed_duties:Stmt:=top 24
abbrev s_part_duties:Stmt:=top 25
abbrev s_draw_duties:Stmt:=top 26
abbrev s_turn_duties:Stmt:=top 27
abbrev s_call_duties:Stmt:=top 28
abbrev s_each_from:Stmt:=top 29
abbrev s_all_turned:Stmt:=top 30
abbrev s_eight_with:Stmt:=top 31
abbrev s_constant:Stmt:=top 32
abbrev s_l_cell_at:Stmt:=top 34
abbrev s_l_mix:Stmt:=top 35
abbrev s_l_number:Stmt:=top 36
abbrev s_l_line_by:Stmt:=top 37
abbrev s_l_deed_by:Stmt:=top 38
abbrev s_l_lines_by:Stmt:=top 39
abbrev s_l_parts_by:Stmt:=top 40
abbrev s_l_whole:Stmt:=top 41
abbrev s_l_is_line:Stmt:=top 42
abbrev s_l_turned:Stmt:=top 43
abbrev s_l_bare:Stmt:=top 44
abbrev s_l_alone:Stmt:=top 45
abbrev s_l_eight:Stmt:=top 46
abbrev s_l_due_at:Stmt:=top 47
abbrev s_l_added:Stmt:=top 48
abbrev s_l_deed_duties:Stmt:=top 49
abbrev s_l_duties:Stmt:=top 50
abbrev s_l_oath:Stmt:=top 51
abbrev s_l_refused:Stmt:=top 52
abbrev s_l_alike:Stmt:=top 53
abbrev s_law:Stmt:=top 54
section
open PySem PySem.Spec PySem.Calls PyProof.Rows PySem.W L2
def zmr (p:Program) (ks:List Nat):Program:={p with main:={p.main with body:=ks.filterMap λi=>p.main.body[i]?}}
def Qv:Program:=zmr PySem.Challenge.rw_swornhall_k09_duties.row.toRowW.prog [1,2,3,4,5,7,8,9,10,11,12,13,15,16,18,19,20,21,22,23,24,25,26,27,28,29,30,31,32,34,35,36,37,38,39,40,41,42,43,44,45,46,47,48,49,50,51,52,53,54]
abbrev nI (K:Fg) (s:Str) (n:Addr):Bool:=PySem.W.nsIn K mainGlobals s == some (some (.ref n))
abbrev fI (K:Fg) (c:Addr) (s:Str) (n:Addr):Bool:=PySem.W.findIn K (.ref c) s == some (some (.ref n))
abbrev gS (n q:Str) (d:Stmt):Option L2.Sig:=some (L2.zly n q (zay d) (zat d) (zaf d))
def zBo1 (K:Fg):List Bool:=[nI K "Craft" 47,
 nI K "HallError" 88,
 nI K "Unmet" 101,
 nI K "copied_lines" 56,
 L2.zaD K 56 "copied_lines",
 nI K "copied_deed" 61,
 L2.zaD K 61 "copied_deed",
 fI K 47 "__init__" 44,
 PySem.W.isFn K (.ref 44),
 L2.zaD K 44 "Craft.__init__",
 nI K "bare" 19,
 L2.zaD K 19 "bare",
 nI K "summed" 24,
 L2.zaD K 24 "summed",
 nI K "turned" 31,
 L2.zaD K 31 "turned",
 nI K "called_by" 66,
 L2.zaD K 66 "called_by",
 nI K "between" 73,
 L2.zaD K 73 "between",
 nI K "due_at" 78,
 L2.zaD K 78 "due_at",
 nI K "eight_with" 167,
 L2.zaD K 167 "eight_with",
 nI K "each_from" 157,
 L2.zaD K 157 "each_from",
 nI K "all_turned" 162,
 L2.zaD K 162 "all_turned",
 nI K "constant" 174,
 L2.zaD K 174 "constant",
 nI K "first_duties" 117,
 L2.zaD K 117 "first_duties",
 nI K "call_duties" 152,
 L2.zaD K 152 "call_duties",
 nI K "part_duties" 131,
 L2.zaD K 131 "part_duties",
 nI K "draw_duties" 138,
 L2.zaD K 138 "draw_duties",
 nI K "turn_duties" 145,
 L2.zaD K 145 "turn_duties",
 nI K "deed_duties" 124,
 L2.zaD K 124 "deed_duties",
 nI K "duties" 110,
 L2.zaD K 110 "duties",
 nI K "_law_mix" 188,
 L2.zaD K 188 "_law_mix",
 nI K "_law_number" 195,
 L2.zaD K 195 "_law_number",
 nI K "_law_line_by" 200,
 L2.zaD K 200 "_law_line_by",
 nI K "_law_lines_by" 212,
 L2.zaD K 212 "_law_lines_by",
 nI K "_law_cell_at" 181,
 L2.zaD K 181 "_law_cell_at",
 nI K "_law_deed_by" 207,
 L2.zaD K 207 "_law_deed_by",
 nI K "_law_parts_by" 217,
 L2.zaD K 217 "_law_parts_by",
 nI K "_law_bare" 239,
 L2.zaD K 239 "_law_bare"]
def zBo2 (K:Fg):List Bool:=[nI K "_law_eight" 251,
 L2.zaD K 251 "_law_eight",
 nI K "_law_turned" 234,
 L2.zaD K 234 "_law_turned",
 nI K "_law_alone" 246,
 L2.zaD K 246 "_law_alone",
 nI K "_law_due_at" 256,
 L2.zaD K 256 "_law_due_at",
 nI K "_law_added" 261,
 L2.zaD K 261 "_law_added",
 nI K "_law_deed_duties" 266,
 L2.zaD K 266 "_law_deed_duties",
 nI K "_law_duties" 271,
 L2.zaD K 271 "_law_duties",
 nI K "_law_whole" 224,
 L2.zaD K 224 "_law_whole",
 nI K "_law_is_line" 229,
 L2.zaD K 229 "_law_is_line",
 nI K "_law_alike" 288,
 L2.zaD K 288 "_law_alike",
 nI K "_law_oath" 276,
 L2.zaD K 276 "_law_oath",
 nI K "_law_refused" 283,
 L2.zaD K 283 "_law_refused",
 nI K "law" 295,
 L2.zaD K 295 "law",
 PySem.W.nsIn K mainGlobals "all"== some none,
 PySem.W.nsIn K mainGlobals "bool"== some none,
 PySem.W.nsIn K mainGlobals "int"== some none,
 PySem.W.nsIn K mainGlobals "isinstance"== some none,
 PySem.W.nsIn K mainGlobals "len"== some none,
 PySem.W.nsIn K mainGlobals "list"== some none,
 PySem.W.nsIn K mainGlobals "max"== some none,
 PySem.W.nsIn K mainGlobals "min"== some none,
 PySem.W.nsIn K mainGlobals "range"== some none,
 PySem.W.nsIn K mainGlobals "sorted"== some none,
 PySem.W.nsIn K mainGlobals "tuple"== some none,
 PySem.W.nsIn K mainGlobals "zip"== some none,
 PySem.W.nsIn K mainGlobals "NUMBERS"== some (some (.int 9 189)),
 PySem.W.nsIn K mainGlobals "FACTORS"== some (some (.int 8 191)),
 nI K "LEFT_AS_HANDS" 32,
 L2.ziX K 32 [(.int 0 216),(.int 1 217),(.int 2 218),(.int 3 219),(.int 4 220),(.int 5 221),(.int 0 222),(.int 1 223)],
 PySem.W.nsIn K mainGlobals "ASKED_0"== some (some (.int 4 326)),
 PySem.W.nsIn K mainGlobals "ASKED_1"== some (some (.int 5 328)),
 PySem.W.nsIn K mainGlobals "NEW_0"== some (some (.int 6 330)),
 PySem.W.nsIn K mainGlobals "NEW_1"== some (some (.int 7 332)),
 L2.zhF K 88 zcJ "ValueError.__new__",
 PySem.W.excIn K 88 zcJ "ValueError.__new__",
 L2.zhF K 101 (.ref 88::zcJ) "ValueError.__new__",
 PySem.W.excIn K 101 zcJ "ValueError.__new__",
 PySem.W.plainGet K 47 Str.empty,
 PySem.W.hasDictIn K 47,
 PySem.W.plainOver K 47,
 PySem.W.findIn K (.ref 47) "__setattr__"== some (some (.builtin "object.__setattr__")),
 PySem.W.makesIn K 47,
 PySem.W.keepIn K (.ref 47),
 PySem.W.findIn K (.ref 47) "needs"== some none,
 PySem.W.findIn K (.ref 47) "leaves"== some none,
 PySem.W.findIn K (.ref 47) "deeds"== some none,
 PySem.W.findIn K (.ref 47) "notes"== some none]
def zBoo (K:Fg):List Bool:=zBo1 K++zBo2 K
def zSee (K:Fg):List (Option L2.Sig):=[L2.zbc K 56,L2.zbc K 61,L2.zbc K 44,L2.zbc K 19,L2.zbc K 24,L2.zbc K 31,L2.zbc K 66,L2.zbc K 73,L2.zbc K 78,L2.zbc K 167,L2.zbc K 157,L2.zbc K 162,L2.zbc K 174,L2.zbc K 117,L2.zbc K 152,L2.zbc K 131,L2.zbc K 138,L2.zbc K 145,L2.zbc K 124,L2.zbc K 110,L2.zbc K 188,L2.zbc K 195,L2.zbc K 200,L2.zbc K 212,L2.zbc K 181,L2.zbc K 207,L2.zbc K 217,L2.zbc K 239,L2.zbc K 251,L2.zbc K 234,L2.zbc K 246,L2.zbc K 256,L2.zbc K 261,L2.zbc K 266,L2.zbc K 271,L2.zbc K 224,L2.zbc K 229,L2.zbc K 288,L2.zbc K 276,L2.zbc K 283,L2.zbc K 295]
def zSig:List (Option L2.Sig):=[gS "copied_lines" "copied_lines" s_copied_lines,
 gS "copied_deed" "copied_deed" s_copied_deed,
 gS "__init__" "Craft.__init__" s_Craft___init__,
 gS "bare" "bare" s_bare,
 gS "summed" "summed" s_summed,
 gS "turned" "turned" s_turned,
 gS "called_by" "called_by" s_called_by,
 gS "between" "between" s_between,
 gS "due_at" "due_at" s_due_at,
 gS "eight_with" "eight_with" s_eight_with,
 gS "each_from" "each_from" s_each_from,
 gS "all_turned" "all_turned" s_all_turned,
 gS "constant" "constant" s_constant,
 gS "first_duties" "first_duties" s_first_duties,
 gS "call_duties" "call_duties" s_call_duties,
 gS "part_duties" "part_duties" s_part_duties,
 gS "draw_duties" "draw_duties" s_draw_duties,
 gS "turn_duties" "turn_duties" s_turn_duties,
 gS "deed_duties" "deed_duties" s_deed_duties,
 gS "duties" "duties" s_duties,
 gS "_law_mix" "_law_mix" s_l_mix,
 gS "_law_number" "_law_number" s_l_number,
 gS "_law_line_by" "_law_line_by" s_l_line_by,
 gS "_law_lines_by" "_law_lines_by" s_l_lines_by,
 gS "_law_cell_at" "_law_cell_at" s_l_cell_at,
 gS "_law_deed_by" "_law_deed_by" s_l_deed_by,
 gS "_law_parts_by" "_law_parts_by" s_l_parts_by,
 gS "_law_bare" "_law_bare" s_l_bare,
 gS "_law_eight" "_law_eight" s_l_eight,
 gS "_law_turned" "_law_turned" s_l_turned,
 gS "_law_alone" "_law_alone" s_l_alone,
 gS "_law_due_at" "_law_due_at" s_l_due_at,
 gS "_law_added" "_law_added" s_l_added,
 gS "_law_deed_duties" "_law_deed_duties" s_l_deed_duties,
 gS "_law_duties" "_law_duties" s_l_duties,
 gS "_law_whole" "_law_whole" s_l_whole,
 gS "_law_is_line" "_law_is_line" s_l_is_line,
 gS "_law_alike" "_law_alike" s_l_alike,
 gS "_law_oath" "_law_oath" s_l_oath,
 gS "_law_refused" "_law_refused" s_l_refused,
 gS "law" "law" s_law]
def HK:PySem.W.Hook:=L2.eHook (List.range 296) (λK=>((zBoo K).all id,zSee K)) (true,zSig)
local macro_rules | `(tactic| walk_at "hd") => `(tactic| (unfold openEnds fencedOpening topFrom staticsOk namesBound laidKept; (try rw [PySem.W.Fast.te10274390034422433532]); (try rw [PySem.W.Fast.te14082659384304107361]); (try rw [PySem.W.Fast.te14364793385576792824]); (try rw [PySem.W.Fast.te1435165496053646825]); (try rw [PySem.W.Fast.te14289696077712309145]); (try rw [PySem.W.Fast.te8920871248978507458]); (try rw [PySem.W.Fast.te5923862056798008813]); (try rw [PySem.W.Fast.te12749700546528644094]); (try rw [PySem.W.Fast.te18344453789297297638]); (try rw [PySem.W.Fast.te5160383126252970620]); (try rw [PySem.W.Fast.te10880121769531294198]); (try rw [PySem.W.Fast.te14722251495701143533]); (try rw [PySem.W.Fast.te10994771534591457954]); (try rw [PySem.W.Fast.te479339242167458305]); (try rw [PySem.W.Fast.te16090120013241838585]); (try rw [PySem.W.Fast.te2386780881361962483]); (try rw [PySem.W.Fast.te11698064438423848299]); (try rw [PySem.W.Fast.te7317090234206586261]); (try rw [PySem.W.Fast.te7369524293546568484]); (try rw [PySem.W.Fast.te3399658132070893891]); (try rw [PySem.W.Fast.te5991557255702980513]); (try rw [PySem.W.Fast.te821141287760084731]); (try rw [PySem.W.Fast.te7409074990110511671]); (try rw [PySem.W.Fast.te13664370479719496447]); (try rw [PySem.W.Fast.te3247288618530077131]); kernel_rfl))
set_option maxRecDepth 1000000 in
set_option maxHeartbeats 0 in
theorem said0:OpenLaw.wellSaid PySem.Challenge.rw_swornhall_k09_duties=true:=by
 rw[PySem.W.Fast.te9446332074065402090]
 kernel_rfl
set_option maxRecDepth 1000000 in
set_option maxHeartbeats 0 in
theorem lf0 (w:World):(openEnds treeTable PySem.Challenge.rw_swornhall_k09_duties.row.prog w 3920).map (λs=>(seen ((recsOf Qv).map (·.name)) (ownsOf Qv) [] {s with gens:=#[]},s.heap.bltView,s.heap.keysOk (looseW Qv []) ((recsOf Qv).map (·.name)) ((litsOf Qv).map (·.1)) ((clssOf Qv (looseW Qv [])).map (·.name)) && s.heap.accountedOkI (importedModules PySem.Challenge.rw_swornhall_k09_duties.row.prog.main.body) && s.heap.isNs mainGlobals && s.heap.isNs builtinsNs && tablesOk Qv s.heap && (λs=>xlAt Qv [] s && recOk PySem.Challenge.rw_swornhall_k09_duties.row.records s) s && (if true then s.gens.size == 0 else !leftWithCleanup s.gens),tabsOk Qv s,pinSeenD Qv (drecsOf Qv) s,plainSeenE Qv (looseW Qv []) s,plainSeenD Qv [] s,wideSeen Qv s,clsSeenW Qv [] s))=some (expectedOf Qv,bltViewBooted,true,true,pinGoodD (drecsOf Qv),plainGoodE Qv (looseW Qv []),plainGoodD Qv [],wideGood Qv,clsGoodW Qv []):=by
 walk_at "hd"
set_option maxRecDepth 1000000 in
set_option maxHeartbeats 0 in
theorem lf1 (w:World):(openEnds treeTable PySem.Challenge.rw_swornhall_k09_duties.row.prog w 3920).map (λs=>((zBo1 (L2.Kof (List.range 296) s.heap)).all id,(zBo2 (L2.Kof (List.range 296) s.heap)).all id,zSee (L2.Kof (List.range 296) s.heap)))=some (true,true,zSig):=by
 walk_at "hd"
theorem left0:LeftO PySem.Challenge.rw_swornhall_k09_duties.row.prog Qv [] (λs=>xlAt Qv [] s && recOk PySem.Challenge.rw_swornhall_k09_duties.row.records s) (Hook.obs HK) (Hook.val HK) 3920:=λw=>by
 obtain⟨s,h,z0⟩:=zme.mp (lf0 w)
 obtain⟨s1,h1,z1⟩:=zme.mp (lf1 w)
 rw[h] at h1
 cases h1
 obtain⟨e0,z0⟩:=Prod.mk.inj z0
 obtain⟨e1,z0⟩:=Prod.mk.inj z0
 obtain⟨e2,z0⟩:=Prod.mk.inj z0
 obtain⟨e3,z0⟩:=Prod.mk.inj z0
 obtain⟨e4,z0⟩:=Prod.mk.inj z0
 obtain⟨e5,z0⟩:=Prod.mk.inj z0
 obtain⟨e6,z0⟩:=Prod.mk.inj z0
 obtain⟨e7,z0⟩:=Prod.mk.inj z0
 have e8:=z0
 obtain⟨e9,z1⟩:=Prod.mk.inj z1
 obtain⟨e10,z1⟩:=Prod.mk.inj z1
 have e11:=z1
 have hO:openSeen Qv [] (importedModules PySem.Challenge.rw_swornhall_k09_duties.row.prog.main.body) (λs=>xlAt Qv [] s && recOk PySem.Challenge.rw_swornhall_k09_duties.row.records s) true s=openGood Qv []:=by
  unfold openSeen openGood
  exact Prod.ext e0 (Prod.ext e1 (Prod.ext e2 (Prod.ext e3 (Prod.ext e4 (Prod.ext e5 (Prod.ext e6 (Prod.ext e7 e8)))))))
 have hK:(Hook.obs HK) s=(Hook.val HK) w:=by
  show ((zBoo (L2.Kof (List.range 296) s.heap)).all id,zSee (L2.Kof (List.range 296) s.heap))=(true,zSig)
  unfold zBoo
  exact Prod.ext (by show (zBo1 _++zBo2 _).all id=true;rw[List.all_append];exact Bool.and_eq_true_iff.mpr ⟨e9,e10⟩) e11
 rw[h]
 exact congrArg some (Prod.ext hO hK)
end
end My
namespace L2
open PySem PySem.Spec PyProof.Rows

abbrev Key:=Sum Int Str
def zg5:Key→Value→Bool
 | .inl k,v=>Value.isInt k v
 | .inr x,v=>Value.isStrOf x v
def keyH (w:World):Key→Int
 | .inl k=>hashInt k
 | .inr x=>hashStr w x
theorem zbe:∀ {k:Key}{v:Value},zg5 k v=true→(∃ i t,k=Sum.inl i∧v=Value.int i t)∨(∃ x t,k=Sum.inr x∧v=Value.str x t)
 | .inl i,v,h=>by
  obtain⟨t,e⟩:=Value.isInt_shape (k:=i) (v:=v) h
  exact .inl ⟨i,t,rfl,e⟩
 | .inr x,v,h=>by
  obtain⟨t,e⟩:=Value.isStrOf_shape (x:=x) (v:=v) h
  exact .inr ⟨x,t,rfl,e⟩
theorem ziY (i:Int) (t:Tok):zg5 (.inl i) (.int i t)=true:=by simp[zg5,Value.isInt]
theorem ziZ (x:Str) (t:Tok):zg5 (.inr x) (.str x t)=true:=by simp[zg5,Value.isStrOf]
theorem zmt (a b:Int):decide ((Sum.inl a:Key)=Sum.inl b)=(a == b):=by
 by_cases e:a=b
 ·subst e;simp
 ·have h:¬ (Sum.inl a:Key)=Sum.inl b:=λq=>e (Sum.inl.inj q)
  rw[decide_eq_false h]
  exact (beq_eq_false_iff_ne.mpr e).symm
theorem zmu (a b:Str):decide ((Sum.inr a:Key)=Sum.inr b)=decide (a=b):=by
 by_cases e:a=b
 ·subst e;simp
 ·have h:¬ (Sum.inr a:Key)=Sum.inr b:=λq=>e (Sum.inr.inj q)
  rw[decide_eq_false h,decide_eq_false e]
theorem zmv (a:Int) (b:Str):decide ((Sum.inl a:Key)=Sum.inr b)=false:=decide_eq_false (λq=>nomatch q)
theorem zmw (a:Str) (b:Int):decide ((Sum.inr a:Key)=Sum.inl b)=false:=decide_eq_false (λq=>nomatch q)
def zbj (prog:Program) (w:World):PySem.KeyKind prog w Key where
 is:=zg5
 hash:=keyH w
 inj:=λv a b ha hb=>by
  rcases zbe ha with ⟨i,t,rfl,rfl⟩ | ⟨x,t,rfl,rfl⟩
  ·rcases zbe hb with ⟨j,u,rfl,e⟩ | ⟨y,u,rfl,e⟩
   ·injection e with e1 _;rw[e1]
   ·exact nomatch e
  ·rcases zbe hb with ⟨j,u,rfl,e⟩ | ⟨y,u,rfl,e⟩
   ·exact nomatch e
   ·injection e with e1 _;rw[e1]
 byValue:=λk v h=>by
  rcases zbe h with ⟨i,t,rfl,rfl⟩ | ⟨x,t,rfl,rfl⟩ <;> rfl
 pyHash:=λhv h=>by
  rcases zbe hv with ⟨i,t,rfl,rfl⟩ | ⟨x,t,rfl,rfl⟩
  ·exact wpAny_pyHash_int h
  ·exact wpAny_pyHash_str h
 eqBool:=λhu hv h=>by
  rcases zbe hu with ⟨i,t,rfl,rfl⟩ | ⟨x,t,rfl,rfl⟩
  ·rcases zbe hv with ⟨j,u,rfl,rfl⟩ | ⟨y,u,rfl,rfl⟩
   ·rw[zmt] at h;exact wpAny_eqBool_int h
   ·rw[zmv] at h;exact SeqAt.EqAt.int_str i t y u _ _ _ _ h
  ·rcases zbe hv with ⟨j,u,rfl,rfl⟩ | ⟨y,u,rfl,rfl⟩
   ·rw[zmw] at h;exact SeqAt.EqAt.str_int x t j u _ _ _ _ h
   ·rw[zmu] at h;exact wpAny_eqBool_str h
 «strs»:=λk x t v h=>by
  rcases zbe h with ⟨i,u,rfl,e⟩ | ⟨y,u,rfl,e⟩
  ·exact nomatch e
  ·injection e with e1 _
   subst e1
   cases v <;> rfl
theorem zg6 (prog:Program) (w:World) (i:Int) (t:Tok):(zbj prog w).is (.inl i) (.int i t)=true:=ziY i t
theorem zg7 (prog:Program) (w:World) (x:Str) (t:Tok):(zbj prog w).is (.inr x) (.str x t)=true:=ziZ x t
end L2

namespace L2
open PySem PySem.Spec PyProof.Rows

inductive V where
 | non | bl (b:Bool) | int (i:Int) | str (x:Str) | byt (b:Array UInt8) | flt (b:UInt64) | ref (a:Addr) | ty (n:String)
 deriving DecidableEq
def RelV:V→Value→Prop
 | .non,u=>u=Value.none
 | .bl b,u=>u=Value.bool b
 | .int i,u=>∃ t,u=Value.int i t
 | .str x,u=>∃ t,u=Value.str x t
 | .byt b,u=>∃ t,u=Value.bytes b t
 | .flt b,u=>∃ t,u=Value.float b t
 | .ref a,u=>u=Value.ref a
 | .ty n,u=>u=Value.type n
abbrev Vals:List V→List Value→Prop:=Paired RelV
theorem Vals.length {xs:List V}{us:List Value}(r:Vals xs us):xs.length=us.length:=Paired.length r
theorem Vals.get:∀ {xs:List V}{us:List Value}{i:Nat}{x:V},Vals xs us→xs[i]?=some x→∃ u,us[i]?=some u∧RelV x u
 | _,_,_,_,.nil,e=>by simp at e
 | _,_,0,_,.cons r _,e=>by simp at e;subst e;exact⟨_,rfl,r⟩
 | _,_,i+1,x,.cons _ t,e=>by
  obtain⟨u,h1,h2⟩:=Vals.get (i:=i) (x:=x) t (by simpa using e)
  exact⟨u,by simpa using h1,h2⟩
theorem Vals.set {x:V}{u:Value}(r:RelV x u):∀ {xs:List V}{us:List Value}(i:Nat),Vals xs us→Vals (xs.set i x) (us.set i u)
 | _,_,_,.nil=>.nil
 | _,_,0,.cons _ t=>.cons r t
 | _,_,i+1,.cons q t=>.cons q (Vals.set r i t)
theorem Vals.append:∀ {xs ys:List V}{us ws:List Value},Vals xs us→Vals ys ws→Vals (xs++ys) (us++ws)
 | _,_,_,_,.nil,s=>s
 | _,_,_,_,.cons r t,s=>.cons r (Vals.append t s)
theorem Vals.take:∀ {xs:List V}{us:List Value}(n:Nat),Vals xs us→Vals (xs.take n) (us.take n)
 | _,_,0,_=>.nil
 | _,_,_+1,.nil=>.nil
 | _,_,n+1,.cons r t=>.cons r (Vals.take n t)
theorem Vals.drop:∀ {xs:List V}{us:List Value}(n:Nat),Vals xs us→Vals (xs.drop n) (us.drop n)
 | _,_,0,r=>r
 | _,_,_+1,.nil=>.nil
 | _,_,n+1,.cons _ t=>Vals.drop n t
theorem Vals.none_of:∀ {xs:List V}{us:List Value}{i:Nat},Vals xs us→xs[i]?=none→us[i]?=none:=λ{xs us i} r e=>by
 have h1:=r.length
 have h2:xs.length≤i:=List.getElem?_eq_none_iff.mp e
 exact List.getElem?_eq_none_iff.mpr (by omega)
def RelO:Option V→Option Value→Prop
 | some v,some u=>RelV v u
 | none,none=>True
 | _,_=>False
def KV {κ:Type} : List (κ × V)→List (κ × Value)→Prop:=Paired λ(p:κ × V) (q:κ × Value)=>p.1=q.1∧RelV p.2 q.2
def kV:Key→V
 | .inl i=>.int i
 | .inr x=>.str x
inductive HO where
 /-- a list -/
 | lst (xs:List V)
 /-- a tuple (never changes) -/
 | tup (xs:List V)
 /-- a dict whose keys are ints and texts;one whose keys are tuples of ints and texts (the empty one is both) -/
 | dK (kvs:List (Key × V)) | dT (kvs:List (List Key × V))
 /-- a set of ints: its members,its size -/
 | set (S:Int→Bool) (n:Nat)
 /-- an instance of the class at C,its dict at dx,its attributes -/
 | ins (C dx:Addr) (fs:List (Str × V))
 /-- the dict of the instance at x -/
 | own (x:Addr)
 /-- the dict of an exception -/
 | xd (fs:List (Str × V))
 /-- a bound method,f of x -/
 | met (f x:Addr)
 /-- a range object lo,lo+1,.. below hi -/
 | rng (lo hi:Int)
 /-- a thing that is known to the object (the script;a dict while a loop walks it): read,never written while it is so -/
 | frz (o:Obj) (u:HO)
 /-- a code object's table -/
 | tbl (ps:Array Value)
 /-- any other thing,by what is true of its one object (a def of one's own: SetO a S n:=HO.ext λh=>..) -/
 | ext (φ:Heap→Prop)
abbrev Hp:=Addr→Option HO
def upd (H:Hp) (a:Addr) (o:HO):Hp:=λb=>if b=a then some o else H b
theorem zac {H:Hp}{a:Addr}{o:HO} : upd H a o a=some o:=by unfold upd;rw[if_pos rfl]
theorem zaw {H:Hp}{a b:Addr}{o:HO}(h:b≠a):upd H a o b=H b:=by unfold upd;rw[if_neg h]
theorem ne_of {H:Hp}{a b:Addr}{o u:HO}(h:H a=some o) (h':H b=some u) (d:o≠u):a≠b:=by
 intro e;subst e;rw[h] at h';exact d (Option.some.inj h')
theorem zaY {H:Hp}{a b:Addr}{o:HO}(h:H a=some o) (h':H b=none):a≠b:=by
 intro e;subst e;rw[h] at h';cases h'
section
variable (P : Program) (w : World)
def zbL (H:Hp) (h:Heap) (a:Addr):HO→Prop
 | .lst xs=>xs.length≤sizeLine∧∃ (its:List Value) (n:Nat),Vals xs its∧h.get? a=some {cls:=.type "list",data:=.seq its.toArray n}
 | .tup xs=>xs.length≤sizeLine∧∃ its:List Value,Vals xs its∧IsTup h a its.toArray
 | .dK kvs=>kvs.length≤sizeLine∧(a == sysModules)=false∧∃ vs,KV kvs vs∧h.DictOf (zbj P w) a vs
 | .dT kvs=>kvs.length≤sizeLine∧(a == sysModules)=false∧∃ xs:List (List Key × Addr × Value),
   Paired (λ(p:List Key × V) (q:List Key × Addr × Value)=>p.1=q.1∧H q.2.1=some (.tup (p.1.map kV))∧RelV p.2 q.2.2) kvs xs∧
   ∃ o es ep,h.get? a=some o∧o.ExactDict∧o.data=.dict es ep∧es.toList=xs.map (entryOfKey (tupleKind (zbj P w)))∧(xs.map (·.1)).Nodup
 | .set S n=>h.SetOf (intKind P w) a S n
 | .ins C dx fs=>H dx=some (.own a)∧fs.length≤1000∧dx≠a∧h.get? a=some (PySem.W.instObj C dx)∧
   ∃ mA,h.Ns1 dx mA∧(∀ f,RelO (fs.lookup f) (mA f))∧PySem.Within mA (fs.map (·.1))
 | .own _=>∃ o,h.get? a=some o
 | .xd fs=>∃ mA,h.Ns1 a mA∧∀ f,RelO (fs.lookup f) (mA f)
 | .rng lo hi=>∃ t u v,h.get? a=some {cls:=.type "range",data:=.fields #[.int lo t,.int hi u,.int 1 v]}
 | .frz o u=>h.get? a=some o∧zbL H h a u
 | .tbl ps=>h.get? a=some {cls:=.none,data:=.fields ps}
 | .met f x=>h.get? a=some (PySem.W.methodObj (.ref f) (.ref x))
 | .ext φ=>φ h∧(∃ o,h.get? a=some o)∧∀ h1 h2:Heap,φ h1→(∀ o,h1.get? a=some o→h2.get? a=some o)→φ h2
def HOk (H:Hp) (h:Heap):Prop:=∀ a o,H a=some o→zbL P w H h a o
end

section
variable {P : Program} {w : World} {H H' : Hp} {h h' : Heap} {a : Addr} {o : HO}
theorem zbL.lt (x:zbL P w H h a o):a<h.objs.size:=by
 cases o with
 | lst xs=>obtain⟨_,_,_,_,e⟩:=x;exact Heap.lt_size e
 | tup xs=>obtain⟨_,_,_,p⟩:=x;exact p.lt
 | dK kvs=>obtain⟨_,_,_,_,o,_,_,e,_⟩:=x;exact Heap.lt_size e
 | dT kvs=>obtain⟨_,_,_,_,o,_,_,e,_⟩:=x;exact Heap.lt_size e
 | set S n=>obtain⟨o,_,_,_,e,_⟩:=x;exact Heap.lt_size e
 | ins C dx fs=>obtain⟨_,_,_,e,_⟩:=x;exact Heap.lt_size e
 | own y=>obtain⟨_,e⟩:=x;exact Heap.lt_size e
 | xd fs=>obtain⟨_,⟨_,_,_,e,_⟩,_⟩:=x;exact Heap.lt_size e
 | rng lo hi=>obtain⟨_,_,_,e⟩:=x;exact Heap.lt_size e
 | frz ob u=>obtain⟨e,_⟩:=x;exact Heap.lt_size e
 | tbl ps=>exact Heap.lt_size (show h.get? a=some _ from x)
 | met f y=>exact Heap.lt_size (show h.get? a=some _ from x)
 | ext φ=>obtain⟨_,⟨_,e⟩,_⟩:=x;exact Heap.lt_size e
theorem Paired.mapP {α β:Type}{F G:α→β→Prop} : ∀ {l₁:List α}{l₂:List β},Paired F l₁ l₂→(∀ a b,F a b→G a b)→Paired G l₁ l₂
 | _,_,.nil,_=>.nil
 | _,_,.cons r t,f=>.cons (f _ _ r) (Paired.mapP t f)
theorem zbL.stay (x:zbL P w H h a o) (k:∀ b u,(b=a∨H b=some (.own a))→h.get? b=some u→h'.get? b=some u)
  (ho:∀ b,H b=some (.own a)→H' b=some (.own a)) (ht:∀ b xs,H b=some (.tup xs)→H' b=some (.tup xs)):zbL P w H' h' a o:=by
 induction o with
 | lst xs=>obtain⟨z,its,n,r,e⟩:=x;exact⟨z,its,n,r,k _ _ (.inl rfl) e⟩
 | tup xs=>obtain⟨z,its,r,ob,e,c⟩:=x;exact⟨z,its,r,ob,k _ _ (.inl rfl) e,c⟩
 | dK kvs=>obtain⟨z,y,vs,r,ob,es,ep,e,c⟩:=x;exact⟨z,y,vs,r,ob,es,ep,k _ _ (.inl rfl) e,c⟩
 | dT kvs=>
  obtain⟨z,y,xs,r,ob,es,ep,e,c⟩:=x
  exact⟨z,y,xs,Paired.mapP r λp q z=>⟨z.1,ht _ _ z.2.1,z.2.2⟩,ob,es,ep,k _ _ (.inl rfl) e,c⟩
 | set S n=>obtain⟨ob,es,ep,t,e,c⟩:=x;exact⟨ob,es,ep,t,k _ _ (.inl rfl) e,c⟩
 | ins C dx fs=>
  obtain⟨d,z,ne,e,mA,⟨od,es,ep,e2,c⟩,r⟩:=x
  exact⟨ho _ d,z,ne,k _ _ (.inl rfl) e,mA,⟨od,es,ep,k _ _ (.inr d) e2,c⟩,r⟩
 | own y=>obtain⟨ob,e⟩:=x;exact⟨ob,k _ _ (.inl rfl) e⟩
 | xd fs=>obtain⟨mA,⟨od,es,ep,e,c⟩,r⟩:=x;exact⟨mA,⟨od,es,ep,k _ _ (.inl rfl) e,c⟩,r⟩
 | rng lo hi=>obtain⟨t,u,v,e⟩:=x;exact⟨t,u,v,k _ _ (.inl rfl) e⟩
 | frz ob u ih=>obtain⟨e,q⟩:=x;exact⟨k _ _ (.inl rfl) e,ih q⟩
 | tbl ps=>
  have e:h.get? a=some {cls:=.none,data:=.fields ps}:=x
  show h'.get? a=some {cls:=.none,data:=.fields ps}
  exact k a _ (.inl rfl) e
 | met f y=>
  have e:h.get? a=some (PySem.W.methodObj (.ref f) (.ref y)):=x
  show h'.get? a=some (PySem.W.methodObj (.ref f) (.ref y))
  exact k a _ (.inl rfl) e
 | ext φ=>obtain⟨p,⟨o,e⟩,st⟩:=x;exact⟨st _ _ p λo q=>k _ _ (.inl rfl) q,⟨o,k _ _ (.inl rfl) e⟩,st⟩
theorem HOk.lt (x:HOk P w H h) (e:H a=some o):a<h.objs.size:=(x a o e).lt
theorem HOk.fresh (x:HOk P w H h) (e:h.objs.size≤a):H a=none:=by
 cases q:H a with
 | none=>rfl
 | some u=>exact absurd (Nat.lt_of_lt_of_le (x.lt q) e) (Nat.lt_irrefl _)
theorem HOk.kept (x:HOk P w H h) (k:∀ b u,h.get? b=some u→h'.get? b=some u):HOk P w H h':=λa o e=>
 (x a o e).stay (λb u _ q=>k b u q) (λ_ q=>q) λ_ _ q=>q
theorem HOk.laid (x:HOk P w H h) (k:∀ b u,h.get? b=some u→h'.get? b=some u) (hp:h.objs.size≤a) (new:zbL P w (upd H a o) h' a o):HOk P w (upd H a o) h':=λb u e=>by
 have hn:=x.fresh hp
 by_cases hb:b=a
 ·subst hb;rw[zac] at e;cases e;exact new
 ·rw[zaw hb] at e
  exact (x b u e).stay (λc v _ q=>k c v q) (λc q=>by rw[zaw (zaY q hn)];exact q) λc xs q=>by rw[zaw (zaY q hn)];exact q
end

def Rd (H:Hp) (a:Addr) (u:HO):Prop:=H a=some u∨∃ o,H a=some (.frz o u)
theorem Rd.ok {P:Program}{w:World}{H:Hp}{h:Heap}{a:Addr}{u:HO}(r:Rd H a u) (x:HOk P w H h):zbL P w H h a u:=by
 rcases r with r | ⟨o,r⟩
 ·exact x a u r
 ·obtain⟨_,q⟩:=x a _ r
  exact q
def Mut:Option HO→Prop
 | some (.lst _)=>True
 | some (.dK _)=>True
 | some (.dT _)=>True
 | some (.set _ _)=>True
 | some (.ins _ _ _)=>True
 | some (.ext _)=>True
 | _=>False
section
variable {P : Program} {w : World} {H : Hp} {h h' : Heap} {x e : Addr} {o' : HO}
theorem HOk.write (ok:HOk P w H h) (mu:Mut (H x)) (he:e=x∨H e=some (.own x)) (k:∀ b u,b≠e→h.get? b=some u→h'.get? b=some u) (heo:∃ u,h'.get? e=some u)
  (new:zbL P w (upd H x o') h' x o'):HOk P w (upd H x o') h':=λb u q=>by
 have nown:∀ c y,H c=some (.own y)→c≠x:=λc y r z=>by subst z;rw[r] at mu;exact mu
 have ntup:∀ c xs,H c=some (.tup xs)→c≠x:=λc xs r z=>by subst z;rw[r] at mu;exact mu
 by_cases hb:b=x
 ·subst hb;rw[zac] at q;cases q;exact new
 ·rw[zaw hb] at q
  by_cases hbe:b=e
  ·have q':H b=some (.own x):=by
    rcases he with z | z
    ·exact absurd (hbe.trans z) hb
    ·rw[hbe];exact z
   rw[q] at q';cases q'
   obtain⟨v,hv⟩:=heo
   exact⟨v,by rw[hbe];exact hv⟩
  ·refine (ok b u q).stay (λc v hc r=>k c v ?_ r) (λc r=>by rw[zaw (nown c b r)];exact r) λc xs r=>by rw[zaw (ntup c xs r)];exact r
   rcases hc with rfl | hc
   ·exact hbe
   ·rintro rfl
    rcases he with z | z
    ·exact nown c b hc z
    ·rw[hc] at z;cases z;exact hb rfl
end

structure Un (fs ex:List Addr) (H H':Hp) (h h':Heap):Prop where
 keep:∀ b o,h.get? b=some o→H b=none→b∉fs→b∉ex→h'.get? b=some o
 slot:∀ b o,h.get? b=some o→H b=none→b∈fs→b∉ex→∃ sl,h'.get? b=some {o with slots:=sl}
 free:∀ b o,h.get? b=some o→H b=none→b∉ex→H' b=none
 there:∀ b o,h.get? b=some o→b∉ex→∃ o',h'.get? b=some o'
 tups:∀ b xs,H b=some (.tup xs)→H' b=some (.tup xs)
 frzs:∀ b o u,H b=some (.frz o u)→H' b=some (.frz o u)
 tbls:∀ b ps,H b=some (.tbl ps)→∃ more,H' b=some (.tbl (ps++more))
section
variable {fs fs' ex ex' : List Addr} {H H1 H2 : Hp} {h h1 h2 h' : Heap} {a x e : Addr} {o : HO}
theorem Un.any (u:Un fs ex H H1 h h1) {b:Addr}{ob:Obj}(q:h.get? b=some ob) (n:H b=none) (hx:b∉ex):∃ sl,h1.get? b=some {ob with slots:=sl}:=by
 by_cases hb:b∈fs
 ·exact u.slot b ob q n hb hx
 ·exact⟨ob.slots,u.keep b ob q n hb hx⟩
theorem Un.kept (k:∀ b u,h.get? b=some u→h'.get? b=some u):Un fs ex H H h h':=
 ⟨λb ob q _ _ _=>k b ob q,λb ob q _ _ _=>⟨ob.slots,k b ob q⟩,λ_ _ _ n _=>n,λb ob q _=>⟨ob,k b ob q⟩,λ_ _ q=>q,λ_ _ _ q=>q,λ_ ps q=>⟨#[],by rw[q];simp⟩⟩
theorem Un.refl:Un fs ex H H h h:=Un.kept λ_ _ q=>q
theorem Un.laid (k:∀ b u,h.get? b=some u→h'.get? b=some u) (hp:h.objs.size≤a) (hn:H a=none):Un fs ex H (upd H a o) h h' where
 keep:=λb u q _ _ _=>k b u q
 slot:=λb u q _ _ _=>⟨u.slots,k b u q⟩
 free:=λb u q n _=>by rw[zaw (Nat.ne_of_lt (Nat.lt_of_lt_of_le (Heap.lt_size q) hp))];exact n
 there:=λb u q _=>⟨u,k b u q⟩
 tups:=λb xs q=>by rw[zaw (zaY q hn)];exact q
 frzs:=λb u xs q=>by rw[zaw (zaY q hn)];exact q
 tbls:=λb ps q=>⟨#[],by rw[zaw (zaY q hn),q];simp⟩
theorem Un.write (mu:Mut (H x)) (he:e=x∨H e=some (.own x)) (k:∀ b u,b≠e→h.get? b=some u→h'.get? b=some u) (heo:∃ u,h'.get? e=some u):Un fs ex H (upd H x o) h h':=by
 have hx:∀ b,H b=none→b≠x:=λb n z=>by subst z;rw[n] at mu;exact mu
 have hb:∀ b,H b=none→b≠e:=λb n z=>by
  subst z
  rcases he with r | r
  ·exact hx b n r
  ·rw[n] at r;cases r
 have hm:∀ b u,H b=some u→¬ Mut (some u)→b≠x:=λb u q nm z=>by subst z;rw[q] at mu;exact nm mu
 refine⟨λb u q n _ _=>k b u (hb b n) q,λb u q n _ _=>⟨u.slots,k b u (hb b n) q⟩,λb u q n _=>by rw[zaw (hx b n)];exact n,λb u q _=>?_,
  λb xs q=>by rw[zaw (hm b _ q λz=>z)];exact q,λb u xs q=>by rw[zaw (hm b _ q λz=>z)];exact q,λb ps q=>⟨#[],by rw[zaw (hm b _ q λz=>z),q];simp⟩⟩
 by_cases hbe:b=e
 ·subst hbe;exact heo
 ·exact⟨u,k b u hbe q⟩
end

def trk (h:Heap) (H:Hp):List Addr:=(List.range h.objs.size).filter λa=>(H a).isSome
def hidT (h:Heap) (H:Hp):Heap:=PySem.W.hideAll h (trk h H)
theorem zi0 (h:Heap) (H:Hp):(hidT h H).objs.size=h.objs.size:=PySem.W.hideAll_size _ _
theorem zki {h:Heap}{H:Hp}{b:Addr}{o:Obj}(e:h.get? b=some o) (n:H b=none):(hidT h H).get? b=some o:=
 PySem.W.hideAll_get _ e λhm=>by
  have q:(H b).isSome=true:=(List.mem_filter.mp hm).2
  rw[n] at q;simp at q
theorem zlz {h:Heap}{H:Hp}{b:Addr}{o:Obj}(e:(hidT h H).get? b=some o):h.get? b=some o∧H b=none:=by
 have e':h.get? b=some o:=PySem.W.of_hideAll (trk h H) e
 refine⟨e',?_⟩
 cases q:H b with
 | none=>rfl
 | some x=>
  have hm:b∈trk h H:=List.mem_filter.mpr ⟨List.mem_range.mpr (Heap.lt_size e'),by simp[q]⟩
  have z:(hidT h H).get? b=none:=PySem.W.hideAll_none (trk h H) hm
  rw[z] at e;cases e
end L2

namespace L2
open PySem PySem.Spec PyProof.Rows

structure Mod (K:Fg) (mg:Str→Option Value) (base:Heap):Prop where
 kin:K.In base
 glob:base.Ns mainGlobals mg
 blt:∃ mb,base.Ns builtinsNs mb∧∀ x:Str,x≠ "__name__" →mb x=bootBuiltins x
 nolimit:base.NoLimit
structure Cx where
 prog:Program
 w:World
 K:Fg
 mg:Str→Option Value
 base:Heap
 A:Around
 N:List Str
 s₀:Shared
 H₀:Hp
 env:Env
 outer:List Env
 stack:List Env
 ex:List Addr
 fn:Str→Bool
 calm:Bool
 pn:List (Addr × Obj)
 xe:Value→Shared→Prop
def frs (l:List Env):List Addr:=l.filterMap (·.frame)
abbrev Cx.fs (X:Cx):List Addr:=frs X.outer
def Vis (sc:Scope) (x:Str):Prop:=sc.names.lookup x=some .local∨sc.names.lookup x=some .cell∨sc.names.lookup x=some .free
def Loc (sc:Scope) (x:Str):Prop:=sc.names.lookup x=some .local∨sc.names.lookup x=some .cell
def Look (env:Env) (h:Heap) (m:Str→Option Value) (x:Str) (u:Value):Prop:=
 (env.kindOf x=some .local∧m x=some u)∨((env.kindOf x=some .cell∨env.kindOf x=some .free)∧∃ c,env.cells.lookup x=some c∧h.IsCell c (some u))
structure Cx.Ok (X:Cx):Prop where
 mod:Mod X.K X.mg X.base
 kind:X.env.scope.kind=.function
 glob:X.env.globals=mainGlobals
 blt:X.env.builtins=builtinsNs
 above:X.s₀.heap.objs.size≤X.env.locals
 inj:∀ x y c,X.env.cells.lookup x=some c→X.env.cells.lookup y=some c→x=y
 has:∀ x,(X.env.kindOf x=some .cell∨X.env.kindOf x=some .free)→∃ c,X.env.cells.lookup x=some c
 cab:∀ x c,X.fn x=true→X.env.cells.lookup x=some c→X.s₀.heap.objs.size≤c
 hd:X.calm=true→X.A.handled=none
 frames:X.A.frames=some X.stack
 stk:X.stack=X.outer∨(X.stack=X.env::X.outer∧X.env.frame=some X.env.locals)
 exf:∀ b∈X.ex,b≠X.env.locals∧∀ x c,X.env.cells.lookup x=some c→c≠b
 bs:∀ b o,X.base.get? b=some o→X.s₀.heap.get? b=some o∧X.H₀ b=none
 bsz:X.base.objs.size≤X.s₀.heap.objs.size
 noex:∀ b o,X.base.get? b=some o→b∉X.ex
 exfs:∀ b∈X.ex,b∉X.fs
 funs:X.s₀.heap.FunFrames X.base X.outer
 frf:∀ b∈X.fs,X.H₀ b=none
structure Inv (X:Cx) (pins:List (Addr × Obj)) (σ:List (Option V)) (H:Hp) (s:Shared):Prop where
 ok:X.Ok
 os:s.os=X.s₀.os
 bare:AllBare s.gens
 base:Un X.fs X.ex X.H₀ H X.s₀.heap s.heap
 loc:∃ m,s.heap.Ns X.env.locals m∧∀ (i:Nat) (x:Str) (v:V),X.N[i]?=some x→σ[i]?=some (some v)→Vis X.env.scope x→∃ u,RelV v u∧Look X.env s.heap m x u
 cell:∀ x c,X.env.cells.lookup x=some c→∃ v,s.heap.IsCell c v
 free:H X.env.locals=none
 freeC:∀ x c,X.env.cells.lookup x=some c→H c=none
 pin:∀ p∈X.pn++pins,s.heap.get? p.1=some p.2∧H p.1=none∧p.1≠X.env.locals∧p.1∉X.fs∧∀ v,p.2.data≠.cell v
 hok:HOk X.prog X.w H s.heap
 len:σ.length=X.N.length
section
variable {X : Cx} {pins : List (Addr × Obj)} {σ : List (Option V)} {H H' : Hp} {s : Shared} {h' : Heap}

theorem Cx.Ok.nofr (ok:X.Ok) {b:Addr}{o:Obj}(e:X.base.get? b=some o):b∉X.fs:=λhb=>by
 have:=(ok.funs.mem hb).1
 rw[e] at this;cases this
theorem Inv.bs (I:Inv X pins σ H s):∀ b o,X.base.get? b=some o→s.heap.get? b=some o∧H b=none:=λb o e=>
 ⟨I.base.keep b o (I.ok.bs b o e).1 (I.ok.bs b o e).2 (I.ok.nofr e) (I.ok.noex b o e),I.base.free b o (I.ok.bs b o e).1 (I.ok.bs b o e).2 (I.ok.noex b o e)⟩
theorem Inv.bk (I:Inv X pins σ H s):∀ b o,X.base.get? b=some o→s.heap.get? b=some o:=λb o e=>(I.bs b o e).1
theorem Inv.mod (I:Inv X pins σ H s):Mod X.K X.mg X.base:=I.ok.mod
theorem Inv.kIn (I:Inv X pins σ H s):X.K.In s.heap:=I.ok.mod.kin.keeps I.bk
theorem Inv.lt (I:Inv X pins σ H s):X.env.locals<s.heap.objs.size:=let ⟨_,hn,_⟩:=I.loc;hn.lt
theorem Inv.sz (I:Inv X pins σ H s):X.s₀.heap.objs.size≤s.heap.objs.size:=Nat.le_trans I.ok.above (Nat.le_of_lt I.lt)
theorem Inv.nofs (I:Inv X pins σ H s) {a:Addr}(h:s.heap.objs.size≤a):a∉X.fs:=λhb=>by
 obtain⟨_,o,ho,_⟩:=I.ok.funs.mem hb
 exact absurd (Nat.lt_of_lt_of_le (Heap.lt_size ho) (Nat.le_trans I.sz h)) (Nat.lt_irrefl _)
theorem Inv.cne (I:Inv X pins σ H s):∀ x c,X.env.cells.lookup x=some c→c≠X.env.locals:=λx c e z=>by
 obtain⟨v,o,ho,hd⟩:=I.cell x c e
 obtain⟨m,⟨o',es,ep,ho',hd',_⟩,_⟩:=I.loc
 rw[z,ho'] at ho;cases ho;rw[hd'] at hd;cases hd
theorem Inv.funs (I:Inv X pins σ H s):s.heap.FunFrames X.base X.outer:=by
 have all:∀ (l:List Env),(∀ b∈frs l,b∈X.fs)→X.s₀.heap.FunFrames X.base l→s.heap.FunFrames X.base l:=by
  intro l
  induction l with
  | nil=>intro _ _;trivial
  | cons env r ih=>
   intro hs hl
   obtain⟨hk,⟨L,o,hf,hn,ho,hd⟩,hr⟩:=hl
   have hL:L∈X.fs:=hs L (by unfold frs;rw[List.filterMap_cons,hf];exact List.mem_cons_self)
   obtain⟨sl,e⟩:=I.base.slot L o ho (I.ok.frf L hL) hL λz=>I.ok.exfs L z hL
   exact⟨hk,⟨L,_,hf,hn,e,hd⟩,ih (λb hb=>hs b (by unfold frs;rw[List.filterMap_cons,hf];exact List.mem_cons_of_mem _ hb)) hr⟩
 exact all X.outer (λ_ hb=>hb) I.ok.funs
theorem Inv.stack (I:Inv X pins σ H s):s.heap.FunFrames X.base X.stack:=by
 rcases I.ok.stk with e | ⟨e,hf⟩
 ·rw[e];exact I.funs
 ·rw[e]
  obtain⟨m,hn,_⟩:=I.loc
  refine .cons (by rw[I.ok.kind];decide) hf hn ?_ I.funs
  exact Heap.get?_none_of_le (Nat.le_trans I.ok.bsz I.ok.above)
theorem Inv.stkSub (I:Inv X pins σ H s):∀ b∈frs X.stack,b∈X.env.locals::X.fs:=λb hb=>by
 rcases I.ok.stk with e | ⟨e,hf⟩
 ·rw[e] at hb;exact List.mem_cons_of_mem _ hb
 ·rw[e] at hb
  unfold frs at hb
  rw[List.filterMap_cons,hf] at hb
  exact hb
theorem Inv.stkFree (I:Inv X pins σ H s):∀ b∈frs X.stack,H b=none:=λb hb=>by
 rcases List.mem_cons.mp (I.stkSub b hb) with e | hb
 ·rw[e];exact I.free
 ·obtain⟨_,o,ho,_⟩:=I.ok.funs.mem hb
  exact I.base.free b o ho (I.ok.frf b hb) λz=>I.ok.exfs b z hb
theorem Inv.step {g':Array GenState}{t':Nat}{d':Drawn}{ch:List Addr}(I:Inv X pins σ H s)
  (hch:∀ b∈ch,(b∈X.ex∨X.s₀.heap.objs.size≤b)∧b≠X.env.locals∧(∀ x c,X.env.cells.lookup x=some c→c≠b)∧∀ p∈X.pn++pins,p.1≠b)
  (keep:∀ b o,b≠X.env.locals→b∉X.fs→b∉ch→s.heap.get? b=some o→H b=none→h'.get? b=some o)
  (slot:∀ b o,b≠X.env.locals→b∈X.fs→b∉ch→s.heap.get? b=some o→H b=none→∃ sl,h'.get? b=some {o with slots:=sl}) (free:∀ b o,b∉ch→s.heap.get? b=some o→H b=none→H' b=none)
  (there:∀ b o,b∉ch→s.heap.get? b=some o→∃ o',h'.get? b=some o')
  (tups:∀ b xs,H b=some (.tup xs)→H' b=some (.tup xs)) (frzs:∀ b o u,H b=some (.frz o u)→H' b=some (.frz o u)) (tbls:∀ b ps,H b=some (.tbl ps)→∃ more,H' b=some (.tbl (ps++more)))
  (ns:∀ m,s.heap.Ns X.env.locals m→h'.Ns X.env.locals m) (hok:HOk X.prog X.w H' h') (hg:AllBare g') :
  Inv X pins σ H' {s with heap:=h',gens:=g',drawn:=d',toks:=t'}:=by
 have neL:∀ b o,X.s₀.heap.get? b=some o→b≠X.env.locals:=λb o e=>Nat.ne_of_lt (Nat.lt_of_lt_of_le (Heap.lt_size e) I.ok.above)
 have neC:∀ b o,X.s₀.heap.get? b=some o→b∉X.ex→b∉ch:=λb o e hx hb=>by
  rcases (hch b hb).1 with z | z
  ·exact hx z
  ·exact absurd (Nat.lt_of_lt_of_le (Heap.lt_size e) z) (Nat.lt_irrefl _)
 have cellK:∀ x c,X.env.cells.lookup x=some c→∀ v,s.heap.IsCell c v→h'.IsCell c v:=λx c e v ⟨o,ho,hd⟩=>by
  have nch:c∉ch:=λz=>(hch c z).2.2.1 x c e rfl
  by_cases hc:c∈X.fs
  ·obtain⟨sl,q⟩:=slot c o (I.cne x c e) hc nch ho (I.freeC x c e)
   exact⟨_,q,hd⟩
  ·exact⟨o,keep c o (I.cne x c e) hc nch ho (I.freeC x c e),hd⟩
 refine⟨I.ok,I.os,hg,⟨λb o e n hb hx=>?_,λb o e n hb hx=>?_,λb o e n hx=>?_,λb o e hx=>?_,λb xs e=>tups b xs (I.base.tups b xs e),λb o xs e=>frzs b o xs (I.base.frzs b o xs e),λb ps e=>?_⟩,?_,λx c e=>?_,?_,λx c e=>?_,λp hp=>?_,hok,I.len⟩
 ·exact keep b o (neL b o e) hb (neC b o e hx) (I.base.keep b o e n hb hx) (I.base.free b o e n hx)
 ·obtain⟨sl,e1⟩:=I.base.slot b o e n hb hx
  obtain⟨sl',e2⟩:=slot b _ (neL b o e) hb (neC b o e hx) e1 (I.base.free b o e n hx)
  exact⟨sl',e2⟩
 ·obtain⟨o',e1⟩:=I.base.there b o e hx
  exact free b o' (neC b o e hx) e1 (I.base.free b o e n hx)
 ·obtain⟨o',e1⟩:=I.base.there b o e hx
  exact there b o' (neC b o e hx) e1
 ·obtain⟨m1,e1⟩:=I.base.tbls b ps e
  obtain⟨m2,e2⟩:=tbls b _ e1
  exact⟨m1++m2,by rw[e2,Array.append_assoc]⟩
 ·obtain⟨m,hn,hl⟩:=I.loc
  refine⟨m,ns m hn,λi x v e1 e2 e3=>?_⟩
  obtain⟨u,r,l⟩:=hl i x v e1 e2 e3
  refine⟨u,r,?_⟩
  rcases l with l | ⟨k,c,e,z⟩
  ·exact .inl l
  ·exact .inr ⟨k,c,e,cellK x c e _ z⟩
 ·obtain⟨v,z⟩:=I.cell x c e
  exact⟨v,cellK x c e v z⟩
 ·obtain⟨m,⟨o,_,_,ho,_⟩,_⟩:=I.loc
  exact free _ o (λz=>(hch _ z).2.1 rfl) ho I.free
 ·obtain⟨v,o,ho,hd⟩:=I.cell x c e
  exact free c o (λz=>(hch c z).2.2.1 x c e rfl) ho (I.freeC x c e)
 ·obtain⟨e,n,ne,nf,d⟩:=I.pin p hp
  have nch:p.1∉ch:=λz=>(hch p.1 z).2.2.2 p hp rfl
  exact⟨keep p.1 p.2 ne nf nch e n,free p.1 p.2 nch e n,ne,nf,d⟩
theorem Inv.un {t':Nat}(I:Inv X pins σ H s) (u:Un X.fs [] H H' s.heap h') (hok:HOk X.prog X.w H' h'):Inv X pins σ H' {s with heap:=h',toks:=t'}:=by
 obtain⟨m,⟨o,es,ep,ho,r⟩,_⟩:=id I.loc
 obtain⟨sl,hL⟩:=u.any ho I.free (by simp)
 exact I.step (g':=s.gens) (d':=s.drawn) (ch:=[]) (λ_ z=>nomatch z) (λb o _ hb _ e n=>u.keep b o e n hb (by simp)) (λb o _ hb _ e n=>u.slot b o e n hb (by simp)) (λb o _ e n=>u.free b o e n (by simp)) (λb o _ e=>u.there b o e (by simp)) u.tups u.frzs u.tbls (λm' hm=>by
  obtain⟨o',es',ep',ho',r'⟩:=hm
  rw[ho] at ho';cases ho'
  exact⟨_,es',ep',hL,r'⟩) hok I.bare
theorem Inv.call {g':Array GenState}{t':Nat}{d':Drawn}{ch:List Addr}(I:Inv X pins σ H s) (u:Un (frs X.stack) ch H H' s.heap h') (hok:HOk X.prog X.w H' h') (hg:AllBare g')
  (hch:∀ b∈ch,(b∈X.ex∨X.s₀.heap.objs.size≤b)∧b≠X.env.locals∧(∀ x c,X.env.cells.lookup x=some c→c≠b)∧∀ p∈X.pn++pins,p.1≠b) :
  Inv X pins σ H' {s with heap:=h',gens:=g',drawn:=d',toks:=t'}:=by
 obtain⟨m,⟨o,es,ep,ho,r⟩,_⟩:=id I.loc
 obtain⟨sl,hL⟩:=u.any ho I.free λz=>(hch _ z).2.1 rfl
 exact I.step (ch:=ch) hch (λb o hL hb hc e n=>u.keep b o e n (λz=>(List.mem_cons.mp (I.stkSub b z)).elim hL hb) hc) (λb o _ _ hc e n=>u.any e n hc) (λb o hc e n=>u.free b o e n hc) (λb o hc e=>u.there b o e hc) u.tups u.frzs u.tbls (λm' hm=>by
  obtain⟨o',es',ep',ho',r'⟩:=hm
  rw[ho] at ho';cases ho'
  exact⟨_,es',ep',hL,r'⟩) hok hg
theorem Inv.turned {t':Nat}{it:Addr}(I:Inv X pins σ H s) (k:∀ b o,b≠it→s.heap.get? b=some o→h'.get? b=some o) (hn:H it=none) (hL:it≠X.env.locals)
  (h1:it∈X.ex∨X.s₀.heap.objs.size≤it) (h2:∀ x c,X.env.cells.lookup x=some c→c≠it) (h3:∀ p∈X.pn++pins,p.1≠it):Inv X pins σ H {s with heap:=h',toks:=t'}:=by
 have nit:∀ b u,H b=some u→b≠it:=λb u e z=>by rw[z,hn] at e;cases e
 refine I.step (g':=s.gens) (d':=s.drawn) (ch:=[it]) (λb hb=>?_) (λb o _ _ hc e _=>k b o (λz=>hc (by simp[z])) e) (λb o _ _ hc e _=>⟨o.slots,k b o (λz=>hc (by simp[z])) e⟩) (λ_ _ _ _ n=>n)
  (λb o hc e=>⟨o,k b o (λz=>hc (by simp[z])) e⟩) (λ_ _ e=>e) (λ_ _ _ e=>e) (λb ps e=>⟨#[],by rw[e];simp⟩) (λm hm=>?_) (λb u e=>?_) I.bare
 ·have e:b=it:=by simpa using hb
  subst e
  exact⟨h1,hL,h2,h3⟩
 ·obtain⟨o,es,ep,ho,r⟩:=hm
  exact⟨o,es,ep,k _ o (Ne.symm hL) ho,r⟩
 ·refine (I.hok b u e).stay (λc v hc q=>k c v ?_ q) (λ_ q=>q) λ_ _ q=>q
  rcases hc with z | z
  ·rw[z];exact nit b u e
  ·exact nit c _ z
theorem Inv.tok (I:Inv X pins σ H s) (t:Nat):Inv X pins σ H {s with toks:=t}:=I.un (h':=s.heap) (t':=t) Un.refl I.hok
theorem Inv.kept {t':Nat}(I:Inv X pins σ H s) (k:∀ b u,s.heap.get? b=some u→h'.get? b=some u):Inv X pins σ H {s with heap:=h',toks:=t'}:=I.un (Un.kept k) (I.hok.kept k)
theorem Inv.laid {a:Addr}{o:HO}{t':Nat}(I:Inv X pins σ H s) (k:∀ b u,s.heap.get? b=some u→h'.get? b=some u) (hp:s.heap.objs.size≤a) (new:zbL X.prog X.w (upd H a o) h' a o) :
  Inv X pins σ (upd H a o) {s with heap:=h',toks:=t'}:=I.un (Un.laid k hp (I.hok.fresh hp)) (I.hok.laid k hp new)
theorem Inv.write {x e:Addr}{o:HO}{t':Nat}(I:Inv X pins σ H s) (mu:Mut (H x)) (he:e=x∨H e=some (.own x)) (k:∀ b u,b≠e→s.heap.get? b=some u→h'.get? b=some u) (heo:∃ u,h'.get? e=some u)
  (new:zbL X.prog X.w (upd H x o) h' x o):Inv X pins σ (upd H x o) {s with heap:=h',toks:=t'}:=I.un (Un.write mu he k heo) (I.hok.write mu he k heo new)
theorem Inv.pins_of {pins':List (Addr × Obj)}(I:Inv X pins σ H s) (h:∀ p∈pins',s.heap.get? p.1=some p.2∧H p.1=none∧p.1≠X.env.locals∧p.1∉X.fs∧∀ v,p.2.data≠.cell v):Inv X pins' σ H s:=
 ⟨I.ok,I.os,I.bare,I.base,I.loc,I.cell,I.free,I.freeC,λp hp=>(zma.mp hp).elim (λz=>I.pin p (List.mem_append_left _ z)) (h p),I.hok,I.len⟩
theorem zfy {N:List Str}(hN:N.Nodup) {i j:Nat}{x:Str}(a:N[i]?=some x) (b:N[j]?=some x):i=j:=by
 obtain⟨h1,e1⟩:=zge.mp a
 obtain⟨h2,e2⟩:=zge.mp b
 exact (List.getElem_inj hN).mp (e1.trans e2.symm)
theorem zf3 {M:Model}{A:Around}{E:Value→Shared→Prop}{i:Nat}{x:Str}{v:V}{u:Value}{Q:Unit→Shared→Prop}(I:Inv X pins σ H s) (hN:X.N.Nodup) (hi:X.N[i]?=some x) (hx:Loc X.env.scope x) (r:RelV v u)
  (h:∀ s',Inv X pins (σ.set i (some v)) H s'→(∃ a,Heap.SameBut a s.heap s'.heap∧(a=X.env.locals∨X.env.cells.lookup x=some a))→Q () s') (hf:X.fn x=true∨X.env.scope.names.lookup x=some .local:=by first | exact .inl rfl | exact .inr rfl | assumption):wpAny M A (storeName X.env x u) Q E s:=by
 obtain⟨m,hn,hl⟩:=id I.loc
 have hcls:(X.env.scope.kind == .class || (X.env.scope.kind == .module && X.env.locals != X.env.globals))=false:=by rw[I.ok.kind];rfl
 have hiσ:i<σ.length:=by rw[I.len];exact (zge.mp hi).1
 have cne:=I.cne
 have tracked:∀ {a:Addr}{h':Heap},(∃ o,s.heap.get? a=some o∧H a=none)→Heap.SameBut a s.heap h'→HOk X.prog X.w H h':=λ{a h'} ha hs b ob e=>by
  obtain⟨_,_,hfree⟩:=ha
  refine (I.hok b ob e).stay (λc w' hc q=>(hs.2 c ?_).trans q) (λ_ q=>q) λ_ _ q=>q
  rintro rfl
  rcases hc with rfl | hc
  ·rw[hfree] at e;cases e
  ·rw[hfree] at hc;cases hc
 rcases hx with hk | hk
 ·refine wpAny_storeName_local hk hn (λh' hn' hs=>?_) hcls
  obtain⟨oL,_,_,hoL,_⟩:=id hn
  refine h _ ⟨I.ok,I.os,I.bare,⟨λb o e n hb hx=>?_,λb o e n hb hx=>?_,I.base.free,λb o e hx=>?_,I.base.tups,I.base.frzs,I.base.tbls⟩,⟨_,hn',λj y v' e1 e2 e3=>?_⟩,λy c e=>?_,I.free,I.freeC,λp hp=>?_,tracked ⟨oL,hoL,I.free⟩ hs,by simpa using I.len⟩ ⟨_,hs,.inl rfl⟩
  ·exact (hs.2 b (Nat.ne_of_lt (Nat.lt_of_lt_of_le (Heap.lt_size e) I.ok.above))).trans (I.base.keep b o e n hb hx)
  ·obtain⟨sl,e1⟩:=I.base.slot b o e n hb hx
   exact⟨sl,(hs.2 b (Nat.ne_of_lt (Nat.lt_of_lt_of_le (Heap.lt_size e) I.ok.above))).trans e1⟩
  ·obtain⟨o',e1⟩:=I.base.there b o e hx
   exact⟨o',(hs.2 b (Nat.ne_of_lt (Nat.lt_of_lt_of_le (Heap.lt_size e) I.ok.above))).trans e1⟩
  ·by_cases hj:j=i
   ·subst hj
    rw[hi] at e1;cases e1
    rw[List.getElem?_set_self hiσ] at e2
    cases e2
    exact⟨u,r,.inl ⟨hk,by simp⟩⟩
   ·rw[List.getElem?_set_ne (Ne.symm hj)] at e2
    obtain⟨u',r',q⟩:=hl j y v' e1 e2 e3
    refine⟨u',r',?_⟩
    rcases q with ⟨k,e⟩ | ⟨k,c,e,z⟩
    ·refine .inl ⟨k,?_⟩
     have:y≠x:=λe=>hj (zfy hN e1 (e ▸ hi))
     simp[this,e]
    ·exact .inr ⟨k,c,e,z.sameBut hs (cne y c e)⟩
  ·obtain⟨w',z⟩:=I.cell y c e
   exact⟨w',z.sameBut hs (cne y c e)⟩
  ·obtain⟨e,n,ne,nf,d⟩:=I.pin p hp
   exact⟨(hs.2 p.1 ne).trans e,n,ne,nf,d⟩
 ·have hfn:X.fn x=true:=by
   rcases hf with z | z
   ·exact z
   ·rw[z] at hk;cases hk
  obtain⟨c,hc⟩:=I.ok.has x (.inl hk)
  obtain⟨w',z⟩:=I.cell x c hc
  refine wpAny_storeName_cell I.ok.kind hk hc z (λh' hc' hs=>?_)
  obtain⟨oc,hoc,hocd⟩:=id z
  refine h {s with heap:=h'} ⟨I.ok,I.os,I.bare,⟨λb o e n hb hx=>?_,λb o e n hb hx=>?_,I.base.free,λb o e hx=>?_,I.base.tups,I.base.frzs,I.base.tbls⟩,⟨m,hn.sameBut hs (Ne.symm (cne x c hc)),λj y v' e1 e2 e3=>?_⟩,λy c' e=>?_,I.free,I.freeC,λp hp=>?_,tracked ⟨oc,hoc,I.freeC x c hc⟩ hs,by simpa using I.len⟩ ⟨c,hs,.inr hc⟩
  ·exact (hs.2 b (Nat.ne_of_lt (Nat.lt_of_lt_of_le (Heap.lt_size e) (I.ok.cab x c hfn hc)))).trans (I.base.keep b o e n hb hx)
  ·obtain⟨sl,e1⟩:=I.base.slot b o e n hb hx
   exact⟨sl,(hs.2 b (Nat.ne_of_lt (Nat.lt_of_lt_of_le (Heap.lt_size e) (I.ok.cab x c hfn hc)))).trans e1⟩
  ·obtain⟨o',e1⟩:=I.base.there b o e hx
   exact⟨o',(hs.2 b (Nat.ne_of_lt (Nat.lt_of_lt_of_le (Heap.lt_size e) (I.ok.cab x c hfn hc)))).trans e1⟩
  ·by_cases hj:j=i
   ·subst hj
    rw[hi] at e1;cases e1
    rw[List.getElem?_set_self hiσ] at e2
    cases e2
    exact⟨u,r,.inr ⟨.inl hk,c,hc,hc'⟩⟩
   ·rw[List.getElem?_set_ne (Ne.symm hj)] at e2
    obtain⟨u',r',q⟩:=hl j y v' e1 e2 e3
    refine⟨u',r',?_⟩
    rcases q with q | ⟨k,c',e,z'⟩
    ·exact .inl q
    ·refine .inr ⟨k,c',e,z'.sameBut hs ?_⟩
     rintro rfl
     exact hj (zfy hN e1 (I.ok.inj _ _ _ e hc ▸ hi))
  ·by_cases hcc:c'=c
   ·subst hcc;exact⟨_,hc'⟩
   ·obtain⟨w2,z2⟩:=I.cell y c' e
    exact⟨w2,z2.sameBut hs hcc⟩
  ·obtain⟨e,n,ne,nf,d⟩:=I.pin p hp
   refine⟨(hs.2 p.1 ?_).trans e,n,ne,nf,d⟩
   intro q
   rw[q,hoc] at e
   have q':oc=p.2:=Option.some.inj e
   exact d w' (by rw[←q'];exact hocd)
theorem zes {M:Model}{A:Around}{E:Value→Shared→Prop}{i:Nat}{x:Str}{v:V}{u:Value}{Q:Unit→Shared→Prop}(I:Inv X pins σ H s) (hN:X.N.Nodup) (hi:X.N[i]?=some x) (hx:Loc X.env.scope x) (r:RelV v u)
  (h:∀ s',Inv X pins (σ.set i (some v)) H s'→Q () s') (hf:X.fn x=true∨X.env.scope.names.lookup x=some .local:=by first | exact .inl rfl | exact .inr rfl | assumption):wpAny M A (storeName X.env x u) Q E s:=
 zf3 I hN hi hx r (λs' I' _=>h s' I') hf
theorem Inv.call' {s':Shared}{ch:List Addr}(I:Inv X pins σ H s) (ho:s'.os=s.os) (u:Un (frs X.stack) ch H H' s.heap s'.heap) (hok:HOk X.prog X.w H' s'.heap) (hg:AllBare s'.gens)
  (hch:∀ b∈ch,(b∈X.ex∨X.s₀.heap.objs.size≤b)∧b≠X.env.locals∧(∀ x c,X.env.cells.lookup x=some c→c≠b)∧∀ p∈X.pn++pins,p.1≠b):Inv X pins σ H' s':=by
 obtain⟨h',g',d',t',o'⟩:=s'
 have e:o'=s.os:=ho
 subst e
 exact I.call (g':=g') (t':=t') (d':=d') u hok hg hch
end

abbrev XK:=Value→Option Addr→Hp→Prop
abbrev St:=List (Option V)
abbrev VK:=V→Hp→Prop
abbrev TE:=St→Hp→VK→Prop
abbrev TT:=St→Hp→(Bool→Hp→Prop)→Prop
abbrev TA:=St→Hp→(List V→Hp→Prop)→Prop
structure Ends where
 nx:St→Hp→Prop
 rt:VK
 bk:St→Hp→Prop:=λ_ _=>False
 ct:St→Hp→Prop:=λ_ _=>False
abbrev TS:=Ends→St→Hp→Prop
def EP (X:Cx) (pins:List (Addr × Obj)) (σ:St) (Q:VK) (u:Value) (s':Shared):Prop:=∃ v H',Inv X pins σ H' s'∧RelV v u∧Q v H'
def TP (X:Cx) (pins:List (Addr × Obj)) (σ:St) (Q:Bool→Hp→Prop) (b:Bool) (s':Shared):Prop:=∃ H',Inv X pins σ H' s'∧Q b H'
def AP (X:Cx) (pins:List (Addr × Obj)) (σ:St) (Q:List V→Hp→Prop) (us:List Value) (s':Shared):Prop:=∃ vs H',Inv X pins σ H' s'∧Vals vs us∧Q vs H'
def SP (X:Cx) (pins:List (Addr × Obj)) (D:Ends) (f:Flow) (s':Shared):Prop:=
 match f with
 | .next=>∃ σ' H',Inv X pins σ' H' s'∧D.nx σ' H'
 | .brk=>∃ σ' H',Inv X pins σ' H' s'∧D.bk σ' H'
 | .cont=>∃ σ' H',Inv X pins σ' H' s'∧D.ct σ' H'
 | .ret u=>∃ v σ' H',Inv X pins σ' H' s'∧RelV v u∧D.rt v H'
def PE (X:Cx) (e:Expr) (t:TE):Prop:=
 ∀ (pins:List (Addr × Obj)) (s:Shared) (σ:St) (H:Hp) (Q:VK),Inv X pins σ H s→t σ H Q→wpAny (model X.prog X.w) X.A (eval e X.env) (EP X pins σ Q) X.xe s
def PT (X:Cx) (e:Expr) (t:TT):Prop:=
 ∀ (pins:List (Addr × Obj)) (s:Shared) (σ:St) (H:Hp) (Q:Bool→Hp→Prop),Inv X pins σ H s→t σ H Q→wpAny (model X.prog X.w) X.A (isTrue e X.env (eval e X.env)) (TP X pins σ Q) X.xe s
def PW (X:Cx) (e:Expr) (t:TT):Prop:=
 ∀ (whole:Sem Value) (pins:List (Addr × Obj)) (s:Shared) (σ:St) (H:Hp) (Q:Bool→Hp→Prop),Inv X pins σ H s→t σ H Q→wpAny (model X.prog X.w) X.A (isTrue e X.env whole) (TP X pins σ Q) X.xe s
theorem PW.pt {X:Cx}{e:Expr}{t:TT}(h:PW X e t):PT X e t:=h _
def PA (X:Cx) (es:List Expr) (t:TA):Prop:=
 ∀ (pos:Pos) (pins:List (Addr × Obj)) (s:Shared) (σ:St) (H:Hp) (Q:List V→Hp→Prop),Inv X pins σ H s→t σ H Q→wpAny (model X.prog X.w) X.A (spliced (backTo pos (starEach es X.env))) (AP X pins σ Q) X.xe s
def PS (X:Cx) (st:Stmt) (t:TS):Prop:=
 ∀ (pins:List (Addr × Obj)) (s:Shared) (σ:St) (H:Hp) (D:Ends),Inv X pins σ H s→t D σ H→wpAny (model X.prog X.w) X.A (exec st X.env) (SP X pins D) X.xe s
def PSs (X:Cx) (st:List Stmt) (t:TS):Prop:=
 ∀ (pins:List (Addr × Obj)) (s:Shared) (σ:St) (H:Hp) (D:Ends),Inv X pins σ H s→t D σ H→wpAny (model X.prog X.w) X.A (execs st X.env) (SP X pins D) X.xe s
theorem thn {α:Type}{t:Sem α}{Q Q':α→Shared→Prop}{M:Model}{A:Around}{E:Value→Shared→Prop}{s:Shared}(h:wpAny M A t Q E s) (hQ:∀ a s,Q a s→Q' a s):wpAny M A t Q' E s:=wpAny_mono h hQ λ_ _ x=>x
end L2

namespace L2
open PySem PySem.Spec PyProof.Rows
section
variable {X : Cx}

theorem bin {a b:Expr}{ta tb:TE}(ha:PE X a ta) (hb:PE X b tb) {pins:List (Addr × Obj)}{s:Shared}{σ:St}{H:Hp}{R:V→V→Hp→Prop}(I:Inv X pins σ H s) (h:ta σ H λx H1=>tb σ H1 λy H2=>R x y H2)
  {α:Type}{Q:α→Shared→Prop}{f:Value→Value→Sem α}
  (hf:∀ v u s2 x y H2,Inv X pins σ H2 s2→RelV x v→RelV y u→R x y H2→wpAny (model X.prog X.w) X.A (f v u) Q X.xe s2) :
  wpAny (model X.prog X.w) X.A (eval a X.env) (λv s₁=>wpAny (model X.prog X.w) X.A (eval b X.env) (λu s₂=>wpAny (model X.prog X.w) X.A (f v u) Q X.xe s₂) X.xe s₁) X.xe s:=by
 refine thn (ha pins s σ H _ I h) λv s1 ⟨x,H1,I1,r1,q1⟩=>?_
 refine thn (hb pins s1 σ H1 _ I1 q1) λu s2 ⟨y,H2,I2,r2,q2⟩=>?_
 exact hf v u s2 x y H2 I2 r1 r2 q2
def tVar (i:Nat):TE:=λσ H Q=>∃ v,σ[i]?=some (some v)∧Q v H
def tC (v:V):TE:=λ_ H Q=>Q v H
theorem zmx {i:Nat}{x:Str}{pos:Pos}(hN:X.N[i]?=some x) (hv:Vis X.env.scope x) (hd:(x == ("__debug__" : Str))=false:=by decide) (hcd:(x == ("__classdict__" : Str))=false:=by decide):PE X (.Name x pos) (tVar i):=by
 intro pins s σ H Q I h
 obtain⟨v,e,h⟩:=h
 obtain⟨m,hn,hl⟩:=I.loc
 obtain⟨u,r,l⟩:=hl i x v hN e hv
 have fin:EP X pins σ Q u s:=⟨v,H,I,r,h⟩
 rcases l with ⟨hk,hm⟩ | ⟨hk,c,hc,hcell⟩
 ·exact wpAny_Name (wpAny_loadName_local I.ok.kind hk hn hm fin) hd
 ·rcases hk with hk | hk
  ·exact wpAny_Name (wpAny_loadName_cell I.ok.kind hk hc hcell fin) hd
  ·exact wpAny_Name (wpAny_loadName_free I.ok.kind hk hc hcell fin hcd) hd
theorem zab {i j pos} : PE X (.Constant (.int i) j pos) (tC (.int i)):=λ_ _ _ H _ I h=>wpAny_Constant_int ⟨.int i,H,I.tok _,⟨_,rfl⟩,h⟩
theorem zfz {b j pos} : PE X (.Constant (.bool b) j pos) (tC (.bl b)):=λ_ _ _ H _ I h=>Constant_bool ⟨.bl b,H,I,rfl,h⟩
theorem zbN {x j pos} : PE X (.Constant (.str x) j pos) (tC (.str x)):=λ_ _ _ H _ I h=>Calls.Constant_str ⟨.str x,H,I.tok _,⟨_,rfl⟩,h⟩
def Gl (X:Cx) (x:Str):Prop:=X.env.kindOf x=some .globalImplicit
theorem zd1 {E:Value→Shared→Prop}{pins:List (Addr × Obj)}{s:Shared}{σ:St}{H:Hp}{x:Str}{u:Value}{pos:Pos}{Q:Value→Shared→Prop}(I:Inv X pins σ H s) (hg:Gl X x) (hm:X.mg x=some u) (h:Q u s)
  (hd:(x == ("__debug__" : Str))=false:=by decide):wpAny (model X.prog X.w) X.A (eval (.Name x pos) X.env) Q E s:=
 Calls.Name_function_global I.ok.kind hg (Calls.loadGlobal_global (by rw[I.ok.glob];exact I.mod.glob.keeps I.bk) hm h) hd
theorem zf4 {E:Value→Shared→Prop}{pins:List (Addr × Obj)}{s:Shared}{σ:St}{H:Hp}{x:Str}{u:Value}{pos:Pos}{Q:Value→Shared→Prop}(I:Inv X pins σ H s) (hg:Gl X x) (hm:X.mg x=none) (hv:bootBuiltins x=some u) (h:Q u s)
  (hn:x≠ "__name__":=by decide) (hd:(x == ("__debug__" : Str))=false:=by decide):wpAny (model X.prog X.w) X.A (eval (.Name x pos) X.env) Q E s:=by
 obtain⟨mb,h1,h2⟩:=I.mod.blt
 exact Calls.Name_function_global I.ok.kind hg (Calls.loadGlobal_builtin (by rw[I.ok.glob];exact I.mod.glob.keeps I.bk) hm (by rw[I.ok.blt];exact h1.keeps I.bk) ((h2 x hn).trans hv) h) hd
theorem zi1 {x:Str}{v:V}{u:Value}{pos:Pos}(hg:Gl X x) (hm:X.mg x=some u) (r:RelV v u) (hd:(x == ("__debug__" : Str))=false:=by decide):PE X (.Name x pos) (tC v):=
 λ_ _ _ H _ I h=>zd1 I hg hm ⟨v,H,I,r,h⟩ hd
theorem zdu {x:Str}{v:V}{u:Value}{pos:Pos}(hg:Gl X x) (hm:X.mg x=none) (hv:bootBuiltins x=some u) (r:RelV v u) (hn:x≠ "__name__":=by decide) (hd:(x == ("__debug__" : Str))=false:=by decide):PE X (.Name x pos) (tC v):=
 λ_ _ _ H _ I h=>zf4 I hg hm hv ⟨v,H,I,r,h⟩ hn hd
variable {a b : Expr} {ta tb : TE} {pos : Pos}
def PC (X:Cx) (op:CmpOp) (a b:Expr) (t:TE):Prop:=
 ∀ (pins:List (Addr × Obj)) (s:Shared) (σ:St) (H:Hp) (Q:VK),Inv X pins σ H s→t σ H Q→
  wpAny (model X.prog X.w) X.A (eval a X.env) (λv s₁=>wpAny (model X.prog X.w) X.A (eval b X.env) (λu s₂=>wpAny (model X.prog X.w) X.A (compareOp op v u) (EP X pins σ Q) X.xe s₂) X.xe s₁) X.xe s
def tB (t:TE):TT:=λσ H Q=>t σ H λx H1=>∃ c,x=.bl c∧Q c H1
theorem zmy {op:CmpOp}{t:TE}(h:PC X op a b t) (h1:behindInMarks op b=false:=by first | exact nobehind _ (by decide) (by decide) | rfl):PT X (.Compare a [op] [b] pos) (tB t):=by
 intro pins s σ H Q I hw
 refine wpAny_isTrue_Compare1 (thn (h pins s σ H _ I hw) λv s1 h1=>thn h1 λu s2 h2=>thn h2 λc s3 ⟨x,H1,I1,r1,q1⟩=>?_) h1
 obtain⟨d,rfl,q⟩:=q1
 cases r1
 exact wpAny_truthy_bool ⟨H1,I1,q⟩
theorem zdi {e:Expr}{t:TE}(h:PE X e t) (he:∀ whole,isTrue e X.env whole=(do let v ←whole;standAt e.pos;holding [v] (truthy v)):=by intro _;rfl):PT X e (tB t):=by
 intro pins s σ H Q I hw
 refine isTrue_plain (thn (h pins s σ H _ I hw) λv s1 ⟨x,H1,I1,r1,q1⟩=>?_) (he _)
 obtain⟨d,rfl,q⟩:=q1
 cases r1
 exact wpAny_truthy_bool ⟨H1,I1,q⟩
variable {tA tB' : TT} {rest : List Expr}
def tAnd (t u:TT):TT:=λσ H Q=>t σ H λc H1=>if c=true then u σ H1 Q else Q false H1
def tOr (t u:TT):TT:=λσ H Q=>t σ H λc H1=>if c=true then Q true H1 else u σ H1 Q
def tNot (t:TT):TT:=λσ H Q=>t σ H λc H1=>Q (!c) H1
theorem zlA (ha:PT X a tA):PW X (.BoolOp .And [a] pos) tA:=by
 intro wh pins s σ H Q I h
 refine isTrue_and (thn (ha pins s σ H Q I h) λc s1 e=>?_)
 cases c with
 | true=>exact isTrue_and_nil e
 | false=>exact e
theorem zf5 (ha:PT X a tA):PW X (.BoolOp .Or [a] pos) tA:=by
 intro wh pins s σ H Q I h
 refine isTrue_or (thn (ha pins s σ H Q I h) λc s1 e=>?_)
 cases c with
 | false=>exact isTrue_or_nil e
 | true=>exact e
theorem zmz (ha:PT X a tA) (hb:PW X (.BoolOp .And (b::rest) pos) tB'):PW X (.BoolOp .And (a::b::rest) pos) (tAnd tA tB'):=by
 intro wh pins s σ H Q I h
 refine isTrue_and (thn (ha pins s σ H _ I h) λc s1 ⟨H1,I1,q1⟩=>?_)
 cases c with
 | true=>exact hb wh pins s1 σ H1 Q I1 q1
 | false=>exact⟨H1,I1,q1⟩
theorem zia (ha:PT X a tA) (hb:PW X (.BoolOp .Or (b::rest) pos) tB'):PW X (.BoolOp .Or (a::b::rest) pos) (tOr tA tB'):=by
 intro wh pins s σ H Q I h
 refine isTrue_or (thn (ha pins s σ H _ I h) λc s1 ⟨H1,I1,q1⟩=>?_)
 cases c with
 | true=>exact⟨H1,I1,q1⟩
 | false=>exact hb wh pins s1 σ H1 Q I1 q1
theorem zef (ha:PT X a tA):PT X (.UnaryOp .Not a pos) (tNot tA):=by
 intro pins s σ H Q I h
 exact isTrue_not (ha pins s σ H (λc H1=>Q (!c) H1) I h)
def zmA (ta tb:TE):TE:=λσ H Q=>ta σ H λx H1=>∃ c,x=.bl c∧if c=true then tb σ H1 Q else Q (.bl false) H1
def zmB (ta:TE):TE:=λσ H Q=>ta σ H λx H1=>∃ c,x=.bl c∧Q (.bl (!c)) H1
theorem zi2 {op}{t:TE}(h:PE X a t):PE X (.BoolOp op [a] pos) t:=λpins s σ H Q I hw=>BoolOp_one (h pins s σ H Q I hw)
theorem zhG (ha:PE X a ta) (hb:PE X (.BoolOp .And (b::rest) pos) tb):PE X (.BoolOp .And (a::b::rest) pos) (zmA ta tb):=by
 intro pins s σ H Q I h
 refine BoolOp_and (thn (ha pins s σ H _ I h) λv s1 ⟨x,H1,I1,r1,q1⟩=>?_)
 obtain⟨c,rfl,q1⟩:=q1
 cases r1
 refine wpAny_truthy_bool ?_
 cases c with
 | true=>exact hb pins s1 σ H1 Q I1 q1
 | false=>exact⟨.bl false,H1,I1,rfl,q1⟩
theorem zmC (ha:PE X a ta):PE X (.UnaryOp .Not a pos) (zmB ta):=by
 intro pins s σ H Q I h
 refine UnaryOp_ (thn (ha pins s σ H _ I h) λv s1 ⟨x,H1,I1,r1,q1⟩=>?_)
 obtain⟨c,rfl,q1⟩:=q1
 cases r1
 exact not_of (wpAny_truthy_bool ⟨.bl (!c),H1,I1,rfl,q1⟩)
def tIf (t:TT) (ta tb:TE):TE:=λσ H Q=>t σ H λc H1=>if c=true then ta σ H1 Q else tb σ H1 Q
theorem zhH {c:Expr}(hc:PT X c tA) (ha:PE X a ta) (hb:PE X b tb):PE X (.IfExp c a b pos) (tIf tA ta tb):=by
 intro pins s σ H Q I h
 refine wpAny_IfExp (thn (hc pins s σ H _ I h) λd s1 ⟨H1,I1,q1⟩=>?_)
 cases d with
 | true=>exact ha pins s1 σ H1 Q I1 q1
 | false=>exact hb pins s1 σ H1 Q I1 q1
end
end L2

namespace L2
open PySem PySem.Spec PyProof.Rows

def SqL (K:Fg) (H:Hp) (a:Addr) (xs:List V):Prop:=
 Rd H a (.lst xs)∨
  ∃ (o:Obj) (its:Array Value) (n:Nat),K.lookup a=some o∧o.cls=.type "list" ∧o.dict=none∧o.data=.seq its n∧its.size≤sizeLine∧Vals xs its.toList
def SqT (K:Fg) (H:Hp) (a:Addr) (xs:List V):Prop:=
 Rd H a (.tup xs)∨
  ∃ (o:Obj) (its:Array Value) (n:Nat),K.lookup a=some o∧o.cls=.type "tuple" ∧o.data=.seq its n∧its.size≤sizeLine∧Vals xs its.toList
def absV:Value→Option V
 | .none=>some .non
 | .bool b=>some (.bl b)
 | .int i _=>some (.int i)
 | .str x _=>some (.str x)
 | .bytes b _=>some (.byt b)
 | .float b _=>some (.flt b)
 | .ref a=>some (.ref a)
 | .type n=>some (.ty n)
 | _=>none
theorem RelV.abs {x:V}{u:Value}(r:RelV x u):absV u=some x:=by
 cases x with
 | non=>cases r;rfl
 | bl _=>cases r;rfl
 | int _=>obtain⟨t,rfl⟩:=r;rfl
 | str _=>obtain⟨t,rfl⟩:=r;rfl
 | byt _=>obtain⟨t,rfl⟩:=r;rfl
 | flt _=>obtain⟨t,rfl⟩:=r;rfl
 | ref _=>cases r;rfl
 | ty _=>cases r;rfl
theorem RelV.inj {x y:V}{u:Value}(r:RelV x u) (q:RelV y u):x=y:=Option.some.inj (r.abs.symm.trans q.abs)
theorem Vals.inj:∀ {xs ys:List V}{us:List Value},Vals xs us→Vals ys us→xs=ys
 | _,_,_,.nil,.nil=>rfl
 | _,_,_,.cons r t,.cons r' t'=>by rw[r.inj r',Vals.inj t t']
section
variable {X : Cx} {pins : List (Addr × Obj)} {σ : St} {H : Hp} {s : Shared} {a : Addr} {xs ys : List V}
theorem SqL.of {K:Fg}(h:H a=some (.lst xs)):SqL K H a xs:=.inl (.inl h)
theorem SqT.of {K:Fg}(h:H a=some (.tup xs)):SqT K H a xs:=.inl (.inl h)
theorem Inv.list (I:Inv X pins σ H s) (h:SqL X.K H a xs):∃ its:List Value,Vals xs its∧PlainL s.heap a its.toArray∧xs.length≤sizeLine:=by
 rcases h with h | ⟨o,its,n,hk,hc,hd,hs,hz,r⟩
 ·obtain⟨z,its,n,r,e⟩:=h.ok I.hok
  exact⟨its,r,⟨_,n,e,rfl,rfl,rfl⟩,z⟩
 ·refine⟨its.toList,r,⟨o,n,I.kIn a o hk,hc,hd,by simpa using hs⟩,?_⟩
  have e:=r.length
  simp only[Array.length_toList] at e
  omega
theorem Inv.tuple (I:Inv X pins σ H s) (h:SqT X.K H a xs):∃ its:List Value,Vals xs its∧IsTup s.heap a its.toArray∧xs.length≤sizeLine:=by
 rcases h with h | ⟨o,its,n,hk,hc,hs,hz,r⟩
 ·obtain⟨z,its,r,p⟩:=h.ok I.hok
  exact⟨its,r,p,z⟩
 ·refine⟨its.toList,r,⟨o,I.kIn a o hk,hc,n,by simpa using hs⟩,?_⟩
  have e:=r.length
  simp only[Array.length_toList] at e
  omega
theorem Inv.list_inj (I:Inv X pins σ H s) (h:SqL X.K H a xs) (h':SqL X.K H a ys):xs=ys:=by
 obtain⟨its,r,⟨o,n,e,_,_,d⟩,_⟩:=I.list h
 obtain⟨its',r',⟨o',n',e',_,_,d'⟩,_⟩:=I.list h'
 rw[e] at e';cases e'
 rw[d] at d'
 injection d' with d1 _
 have:its=its':=by simpa using congrArg Array.toList d1
 subst this
 exact r.inj r'
theorem Inv.tuple_inj (I:Inv X pins σ H s) (h:SqT X.K H a xs) (h':SqT X.K H a ys):xs=ys:=by
 obtain⟨its,r,⟨o,e,_,n,d⟩,_⟩:=I.tuple h
 obtain⟨its',r',⟨o',e',_,n',d'⟩,_⟩:=I.tuple h'
 rw[e] at e';cases e'
 rw[d] at d'
 injection d' with d1 _
 have:its=its':=by simpa using congrArg Array.toList d1
 subst this
 exact r.inj r'
end

abbrev Cx.wish (X:Cx) (E:Value→Shared→Prop):Cx:={X with xe:=E}
abbrev Cx.nox (X:Cx):Cx:=X.wish λ_ _=>False
theorem Cx.Ok.wish {X:Cx}(ok:X.Ok) (E:Value→Shared→Prop):(X.wish E).Ok:=
 ⟨ok.mod,ok.kind,ok.glob,ok.blt,ok.above,ok.inj,ok.has,ok.cab,ok.hd,ok.frames,ok.stk,ok.exf,ok.bs,ok.bsz,ok.noex,ok.exfs,ok.funs,ok.frf⟩
theorem Cx.Ok.unwish {X:Cx}{E:Value→Shared→Prop}(ok:(X.wish E).Ok):X.Ok:=
 ⟨ok.mod,ok.kind,ok.glob,ok.blt,ok.above,ok.inj,ok.has,ok.cab,ok.hd,ok.frames,ok.stk,ok.exf,ok.bs,ok.bsz,ok.noex,ok.exfs,ok.funs,ok.frf⟩
section
variable {X : Cx} {pins : List (Addr × Obj)} {σ : St} {H : Hp} {s : Shared} {E : Value → Shared → Prop}
theorem Inv.wish (I:Inv X pins σ H s) (E:Value→Shared→Prop):Inv (X.wish E) pins σ H s:=⟨I.ok.wish E,I.os,I.bare,I.base,I.loc,I.cell,I.free,I.freeC,I.pin,I.hok,I.len⟩
theorem Inv.unwish (I:Inv (X.wish E) pins σ H s):Inv X pins σ H s:=⟨I.ok.unwish,I.os,I.bare,I.base,I.loc,I.cell,I.free,I.freeC,I.pin,I.hok,I.len⟩
theorem SP.unwish {D:Ends}{f:Flow}{s':Shared}(h:SP (X.wish E) pins D f s'):SP X pins D f s':=by
 cases f with
 | next=>obtain⟨σ',H',I,q⟩:=h;exact⟨σ',H',I.unwish,q⟩
 | brk=>obtain⟨σ',H',I,q⟩:=h;exact⟨σ',H',I.unwish,q⟩
 | cont=>obtain⟨σ',H',I,q⟩:=h;exact⟨σ',H',I.unwish,q⟩
 | ret u=>obtain⟨v,σ',H',I,r,q⟩:=h;exact⟨v,σ',H',I.unwish,r,q⟩
theorem PSs.nox {st:List Stmt}{t:TS}(h:PSs X.nox st t):PSs X st t:=λpins s σ H D I hw=>
 wpAny_mono (h pins s σ H D (I.wish _) hw) (λ_ _ q=>q.unwish) λ_ _ z=>False.elim z
end

section
variable {X : Cx} {st : Stmt} {rest : List Stmt} {t u : TS} {e : Expr} {te : TE} {pos : Pos}
def zi3:TS:=λD σ H=>D.nx σ H
def tSeq (t u:TS):TS:=λD σ H=>t {D with nx:=u D} σ H
theorem zaP:PSs X [] zi3:=λ_ _ σ H _ I h=>wpAny_execs_nil ⟨σ,H,I,h⟩
theorem zah (h1:PS X st t) (h2:PSs X rest u):PSs X (st::rest) (tSeq t u):=by
 intro pins s σ H D I h
 refine wpAny_execs_cons (thn (h1 pins s σ H {D with nx:=u D} I h) λf s1 q=>?_)
 cases f with
 | next=>
  obtain⟨σ',H',I',q⟩:=q
  exact h2 pins s1 σ' H' D I' q
 | ret v=>exact q
 | brk=>exact q
 | cont=>exact q
theorem zal (h1:PS X st t):PSs X [st] t:=by
 intro pins s σ H D I h
 refine wpAny_execs_cons (thn (h1 pins s σ H D I h) λf s1 q=>?_)
 cases f with
 | next=>exact wpAny_execs_nil q
 | ret v=>exact q
 | brk=>exact q
 | cont=>exact q
theorem Inv.quiet {pins:List (Addr × Obj)}{σ:St}{H:Hp}{s:Shared}(I:Inv X pins σ H s):interactive X.env=false:=by simp[interactive,I.ok.kind]
def zlB (te:TE):TS:=λD σ H=>te σ H λ_ H1=>D.nx σ H1
theorem zi4 (he:PE X e te) (hs:swapsWith e none pos.line X.env=pure false:=by rfl):PS X (.Expr e pos) (zlB te):=by
 intro pins s σ H D I h
 exact wpAny_Expr_any (thn (he pins s σ H _ I h) λv s1 ⟨x,H1,I1,r1,q1⟩=>⟨σ,H1,I1,q1⟩) I.quiet hs
def tRet (te:TE):TS:=λD σ H=>te σ H D.rt
theorem zaA (he:PE X e te):PS X (.Return (some e) pos) (tRet te):=by
 intro pins s σ H D I h
 exact wpAny_Return_some (thn (he pins s σ H _ I h) λv s1 ⟨x,H1,I1,r1,q1⟩=>⟨x,σ,H1,I1,r1,q1⟩)
def tIfS (c:TT) (t u:TS):TS:=λD σ H=>c σ H λb H1=>if b=true then t D σ H1 else u D σ H1
theorem zbB {c:Expr}{a b:List Stmt}{tc:TT}(hc:PT X c tc) (ha:PSs X a t) (hb:PSs X b u):PS X (.If c a b pos) (tIfS tc t u):=by
 intro pins s σ H D I h
 refine wpAny_If (thn (hc pins s σ H _ I h) λd s1 ⟨H1,I1,q1⟩=>?_)
 cases d with
 | true=>exact ha pins s1 σ H1 D I1 q1
 | false=>exact hb pins s1 σ H1 D I1 q1
def zmD:TS:=λ_ _ _=>False
end

abbrev TG:=V→St→Hp→(St→Hp→Prop)→Prop
abbrev TGs:=List V→St→Hp→(St→Hp→Prop)→Prop
def PG (X:Cx) (target:Expr) (t:TG):Prop:=
 ∀ (pins:List (Addr × Obj)) (s:Shared) (σ:St) (H:Hp) (v:V) (u:Value) (Q:St→Hp→Prop),Inv X pins σ H s→RelV v u→t v σ H Q→
  wpAny (model X.prog X.w) X.A (assign target X.env u) (λ_ s'=>∃ σ' H',Inv X pins σ' H' s'∧Q σ' H') X.xe s
def PGs (X:Cx) (ts:List Expr) (t:TGs):Prop:=
 ∀ (pins:List (Addr × Obj)) (s:Shared) (σ:St) (H:Hp) (vs:List V) (us:List Value) (Q:St→Hp→Prop),Inv X pins σ H s→Vals vs us→t vs σ H Q→
  wpAny (model X.prog X.w) X.A (assignInOrder ((assignEach ts X.env).map (·.2)) us) (λ_ s'=>∃ σ' H',Inv X pins σ' H' s'∧Q σ' H') X.xe s
abbrev TSet:=V→V→V→Hp→(Hp→Prop)→Prop
def PSet (X:Cx) (t:TSet):Prop:=
 ∀ (pins:List (Addr × Obj)) (s:Shared) (σ:St) (H:Hp) (o i v:V) (ov iv u:Value) (Q:Hp→Prop),Inv X pins σ H s→RelV o ov→RelV i iv→RelV v u→t o i v H Q→
  wpAny (model X.prog X.w) X.A (setItem ov iv u) (λ_ s'=>∃ H',Inv X pins σ H' s'∧Q H') X.xe s
section
variable {X : Cx} {pos : Pos}
def zkj (i:Nat):TG:=λv σ H Q=>Q (σ.set i (some v)) H
theorem zas {i:Nat}{x:Str}(hN:X.N.Nodup) (hi:X.N[i]?=some x) (hx:Loc X.env.scope x) (hf:X.fn x=true∨X.env.scope.names.lookup x=some .local:=by first | exact .inl rfl | exact .inr rfl | assumption):PG X (.Name x pos) (zkj i):=by
 intro pins s σ H v u Q I r h
 exact wpAny_assign_Name (zes I hN hi hx r (λs' I'=>⟨_,H,I',h⟩) hf)
def gNil:TGs:=λvs σ H Q=>vs=[]∧Q σ H
def gCons (t:TG) (u:TGs):TGs:=λvs σ H Q=>∃ v r,vs=v::r∧t v σ H λσ' H'=>u r σ' H' Q
theorem zdv:PGs X [] gNil:=by
 intro pins s σ H vs us Q I r h
 obtain⟨e,h⟩:=h
 subst e
 cases r
 exact assignInOrder_nil ⟨σ,H,I,h⟩
theorem zbs {e:Expr}{es:List Expr}{t:TG}{u:TGs}(h1:PG X e t) (h2:PGs X es u)
  (hs:(assignEach (e::es) X.env).map (·.2)=assign e X.env::(assignEach es X.env).map (·.2):=by rfl):PGs X (e::es) (gCons t u):=by
 intro pins s σ H vs us Q I r h
 obtain⟨v,vr,e1,h⟩:=h
 subst e1
 cases r with
 | cons r rr=>
  rw[hs]
  refine assignInOrder_cons (thn (h1 pins s σ H _ _ _ I r h) λ_ s1 ⟨σ1,H1,I1,q1⟩=>?_)
  exact h2 pins s1 σ1 H1 _ _ Q I1 rr q1
def gTup (K:Fg) (n:Nat) (t:TGs):TG:=λv σ H Q=>∃ a xs,v=.ref a∧SqT K H a xs∧xs.length=n∧t xs σ H Q
theorem zmE {es:List Expr}{k:Nat}{t:TGs}{n:Nat}(hc:X.calm=true) (h:PGs X es t)
  (hn:(assignEach es X.env).length=n:=by rfl) (hst:(assignEach es X.env).findIdx? (·.1)=none:=by rfl):PG X (.Tuple es k pos) (gTup X.K n t):=by
 intro pins s σ H v u Q I r hw
 obtain⟨a,xs,e1,hq,hl,hw⟩:=hw
 subst e1
 cases r
 obtain⟨its,rv,ht,hz⟩:=I.tuple hq
 refine assign_Tuple_tuple (I.ok.hd hc) ht (by simp[hn,←hl,rv.length]) hst λh' hx=>?_
 have I1:Inv X pins σ H {s with heap:=h'}:=I.kept (t':=s.toks) λb o e=>hx b o (Nat.ne_of_lt (Heap.lt_size e)) e
 exact h pins _ σ H xs _ Q I1 (by simpa using rv) hw
def gSub (to ti:TE) (t:TSet):TG:=λv σ H Q=>to σ H λo H1=>ti σ H1 λi H2=>t o i v H2 λH3=>Q σ H3
theorem zfi {o i:Expr}{to ti:TE}{t:TSet}(ho:PE X o to) (hi:PE X i ti) (hs:PSet X t)
  (ha:∀ v,assign (.Subscript o i pos) X.env v=(do
   let ov ←holding [v] (eval o X.env)
   let iv ←holding [v,ov] (eval i X.env)
   standAt pos
   holding [v,ov,iv] (setItem ov iv v)
   release [v,ov,iv] []):=by intro _;rfl):PG X (.Subscript o i pos) (gSub to ti t):=by
 intro pins s σ H v u Q I r h
 rw[ha]
 refine wpAny_bind (wpAny_holding (thn (ho pins s σ H _ I h) λov s1 ⟨x,H1,I1,r1,q1⟩=>?_))
 refine wpAny_bind (wpAny_holding (thn (hi pins s1 σ H1 _ I1 q1) λiv s2 ⟨y,H2,I2,r2,q2⟩=>?_))
 refine wpAny_bind (wpAny_standAt (wpAny_bind (wpAny_holding (thn (hs pins s2 σ H2 x y v ov iv u _ I2 r1 r2 r q2) λ_ s3 ⟨H3,I3,q3⟩=>?_))))
 exact wpAny_release ⟨σ,H3,I3,q3⟩
def tAsg (te:TE) (g:TG):TS:=λD σ H=>te σ H λx H1=>g x σ H1 D.nx
theorem zew {tg e:Expr}{te:TE}{g:TG}(he:PE X e te) (hg:PG X tg g) (hs:swapsWithSole [tg] e pos.line X.env=pure false:=by rfl) (hw:swappedStores [tg] e X.env=pure none:=by rfl)
  (h1:(assignEach [tg] X.env).map (·.2)=[assign tg X.env]:=by rfl):PS X (.Assign [tg] e pos) (tAsg te g):=by
 intro pins s σ H D I h
 refine wpAny_Assign_stores (thn (he pins s σ H _ I h) λv s1 ⟨x,H1,I1,r1,q1⟩=>?_) hs hw
 rw[h1]
 exact thn (hg pins s1 σ H1 x v _ I1 r1 q1) λ_ s2 q=>q
theorem zaB {i:Nat}{x:Str}{e:Expr}{te:TE}{pos':Pos}(hN:X.N.Nodup) (hi:X.N[i]?=some x) (hx:Loc X.env.scope x) (he:PE X e te) (hs:swapsWith e (some (.Name x pos')) pos.line X.env=pure false:=by rfl) (hf:X.fn x=true∨X.env.scope.names.lookup x=some .local:=by first | exact .inl rfl | exact .inr rfl | assumption) :
  PS X (.Assign [.Name x pos'] e pos) (tAsg te (zkj i)):=by
 intro pins s σ H D I h
 refine wpAny_Assign_Name (thn (he pins s σ H _ I h) λv s1 ⟨y,H1,I1,r1,q1⟩=>?_) hs
 exact zes I1 hN hi hx r1 (λs2 I2=>⟨_,H1,I2,q1⟩) hf
end

section
variable {X : Cx} {pos : Pos}
end

structure It where
 go:Nat→Hp→Prop
 yld:Nat→Hp→V→Hp→Prop
 stop:Nat→Hp→Prop
def FpOk (X:Cx) (pins:List (Addr × Obj)) (H:Hp) (b:Addr):Prop:=
 H b=none∧b≠X.env.locals∧b∉X.fs∧(b∈X.ex∨X.s₀.heap.objs.size≤b)∧(∀ x c,X.env.cells.lookup x=some c→c≠b)∧∀ p∈X.pn++pins,p.1≠b
theorem Inv.fpOk {X:Cx}{pins:List (Addr × Obj)}{σ:St}{H H':Hp}{s:Shared}{b:Addr}(I:Inv X pins σ H s) (hb:s.heap.objs.size≤b) (hn:H' b=none):FpOk X pins H' b:=by
 refine⟨hn,Nat.ne_of_gt (Nat.lt_of_lt_of_le I.lt hb),I.nofs hb,.inr (Nat.le_trans I.sz hb),λx c e z=>?_,λp hp z=>?_⟩
 ·obtain⟨v,q⟩:=I.cell x c e
  exact absurd (Nat.lt_of_lt_of_le q.lt (by rw[z];exact hb)) (Nat.lt_irrefl _)
 ·exact absurd (Nat.lt_of_lt_of_le (Heap.lt_size (I.pin p hp).1) (by rw[z];exact hb)) (Nat.lt_irrefl _)
structure Turn (P:Program) (w:World) (K:Fg) (tg:Expr) (J:It) (fp:List Addr) (it:Addr) (tn:Nat→Heap→Prop):Prop where
 mem:it∈fp
 obj:∀ i h,tn i h→∀ b∈fp,∃ o,h.get? b=some o∧∀ v,o.data≠.cell v
 keep:∀ i h h',tn i h→(∀ b∈fp,∀ o,h.get? b=some o→h'.get? b=some o)→tn i h'
 item:∀ (X:Cx),X.prog=P→X.w=w→X.K=K→X.calm=true→∀ (i:Nat) (pins:List (Addr × Obj)) (s:Shared) (σ:St) (H:Hp) (E:Value→Shared→Prop),Inv X pins σ H s→(∀ b∈fp,FpOk X pins H b)→tn i s.heap→J.go i H→
  wpAny (model P w) X.A (pyNext (.ref it)) (λr s1=>∃ u,r=some u∧
   wpAny (model P w) X.A (letOwnedTupleGo tg (.ref it) u) (λ_ s2=>∃ x H',Inv X pins σ H' s2∧RelV x u∧J.yld i H x H'∧tn (i+1) s2.heap∧∀ b∈fp,H' b=none) E s1) E s
 done:∀ (X:Cx),X.prog=P→X.w=w→X.K=K→X.calm=true→∀ (i:Nat) (pins:List (Addr × Obj)) (s:Shared) (σ:St) (H:Hp) (E:Value→Shared→Prop),Inv X pins σ H s→(∀ b∈fp,FpOk X pins H b)→tn i s.heap→J.stop i H→
  wpAny (model P w) X.A (pyNext (.ref it)) (λr s1=>r=none∧Inv X pins σ H s1) E s
 self:∀ (A:Around) (i:Nat) (s:Shared) (Q:Value→Shared→Prop) (E:Value→Shared→Prop),tn i s.heap→Q (.ref it) s→wpAny (model P w) A (pyIter (.ref it)) Q E s
abbrev TI:=St→Hp→(It→Hp→Prop)→Prop
def PIE (X:Cx) (pins:List (Addr × Obj)) (σ:St) (tg:Expr) (R:It→Hp→Prop) (itv:Value) (s2:Shared):Prop:=
 ∃ (it:Addr) (fp:List Addr) (tn:Nat→Heap→Prop) (J:It) (H':Hp),itv=.ref it∧Inv X pins σ H' s2∧Turn X.prog X.w X.K tg J fp it tn∧tn 0 s2.heap∧(∀ b∈fp,FpOk X pins H' b)∧R J H'
def PI (X:Cx) (tg iter:Expr) (wi:TI):Prop:=
 ∀ (pins:List (Addr × Obj)) (s:Shared) (σ:St) (H:Hp) (R:It→Hp→Prop),Inv X pins σ H s→wi σ H R→
  wpAny (model X.prog X.w) X.A (eval iter X.env) (λv s1=>wpAny (model X.prog X.w) X.A (pyIter v) (PIE X pins σ tg R) X.xe s1) X.xe s
theorem zlC {M:Model}{A:Around}{E:Value→Shared→Prop}{s:Shared}{tg:Expr}{it:Addr}{u:Value}{o:Obj}{n:String}{vs:Array Value}{Q:Unit→Shared→Prop}(ho:s.heap.get? it=some o) (hc:o.cls=.type n) (hd:o.data=.fields vs)
    (hn:["enumerate","zip","dict_itemiterator","dict_reverseitemiterator","odict_iterator","itertools.zip_longest","itertools.pairwise"].contains n=false) (hQ:Q () s):wpAny M A (letOwnedTupleGo tg (.ref it) u) Q E s:=by
  unfold letOwnedTupleGo
  cases tg <;> first
    | exact wpAny_pure hQ
    | (cases u <;> first
        | exact wpAny_pure hQ
        | (refine wpAny_bind (wpAny_load ho ?_)
           rw[hc,hd]
           show wpAny M A (if (["enumerate","zip","dict_itemiterator","dict_reverseitemiterator","odict_iterator","itertools.zip_longest","itertools.pairwise"].contains n && vs[0]? == some (rawInt _))=true then _ else _) Q E s
           rw[if_neg (by intro h;rw[hn,Bool.false_and] at h;cases h)]
           exact wpAny_pure hQ))
def Itl (K:Fg) (a:Addr):It:=
 ⟨λi H=>∃ xs x,SqL K H a xs∧xs[i]?=some x,λi H x H'=>H'=H∧∀ xs,SqL K H a xs→xs[i]?=some x,λi H=>∃ xs,SqL K H a xs∧xs.length≤i⟩
def Itt (K:Fg) (a:Addr):It:=
 ⟨λi H=>∃ xs x,SqT K H a xs∧xs[i]?=some x,λi H x H'=>H'=H∧∀ xs,SqT K H a xs→xs[i]?=some x,λi H=>∃ xs,SqT K H a xs∧xs.length≤i⟩
def Itr (lo:Int) (n:Nat):It:=⟨λi _=>i<n,λi H x H'=>H'=H∧x=.int (lo+i),λi _=>n≤i⟩
theorem zi5 {P:Program}{w:World}{K:Fg}{tg:Expr}(a it:Addr):Turn P w K tg (Itl K a) [it] it (λi h=>h.IsListIter it a i) where
 mem:=by simp
 obj:=λi h st b hb=>by
  have e:b=it:=by simpa using hb
  subst e
  obtain⟨o,e,c,d⟩:=st
  exact⟨o,e,λv z=>by rw[d] at z;cases z⟩
 keep:=λi h h' st k=>st.at λo e=>k it (by simp) o e
 item:=by
  intro X hP hw hK hc i pins s σ H E I hf st hg
  subst hP hw hK
  obtain⟨xs,x,hq,hx⟩:=hg
  obtain⟨its,rv,p,hz⟩:=I.list hq
  obtain⟨u,hu,ru⟩:=rv.get hx
  obtain⟨f0,f1,f2,f3,f4,f5⟩:=hf it (by simp)
  refine wpAny_pyNext_list_item st p.isList (x:=u) (by simpa using hu) λh' st' sb=>?_
  have I1:Inv X pins σ H {s with heap:=h'}:=I.turned (t':=s.toks) (λb o hb e=>(sb.2 b hb).trans e) f0 f1 f3 f4 f5
  obtain⟨o,e,c,d⟩:=id st'
  exact⟨u,rfl,zlC (s:={s with heap:=h'}) e c d (by decide) ⟨x,H,I1,ru,⟨rfl,λys hy=>by rw[I.list_inj hy hq];exact hx⟩,st',λb hb=>(hf b hb).1⟩⟩
 done:=by
  intro X hP hw hK hc i pins s σ H E I hf st hg
  subst hP hw hK
  obtain⟨xs,hq,hx⟩:=hg
  obtain⟨its,rv,p,hz⟩:=I.list hq
  obtain⟨f0,f1,f2,f3,f4,f5⟩:=hf it (by simp)
  have hl:=rv.length
  exact wpAny_pyNext_list_end (I.ok.hd hc) st p.isList (by simp;omega) λh' eb=>⟨rfl,I.turned (t':=s.toks) (λb o hb e=>eb b o hb e) f0 f1 f3 f4 f5⟩
 self:=λ_ _ _ _ _ st h=>wpAny_pyIter_listiter st h
theorem zib {P:Program}{w:World}{K:Fg}{tg:Expr}(a it:Addr):Turn P w K tg (Itt K a) [it] it (λi h=>h.IsTupleIter it a i) where
 mem:=by simp
 obj:=λi h st b hb=>by
  have e:b=it:=by simpa using hb
  subst e
  obtain⟨o,e,c,d⟩:=st
  exact⟨o,e,λv z=>by rw[d] at z;cases z⟩
 keep:=λi h h' st k=>st.at λo e=>k it (by simp) o e
 item:=by
  intro X hP hw hK hc i pins s σ H E I hf st hg
  subst hP hw hK
  obtain⟨xs,x,hq,hx⟩:=hg
  obtain⟨its,rv,p,hz⟩:=I.tuple hq
  obtain⟨u,hu,ru⟩:=rv.get hx
  obtain⟨f0,f1,f2,f3,f4,f5⟩:=hf it (by simp)
  refine wpAny_pyNext_tuple_item st (show s.heap.IsTuple a its.toArray from p) (x:=u) (by simpa using hu) λh' st' sb=>?_
  have I1:Inv X pins σ H {s with heap:=h'}:=I.turned (t':=s.toks) (λb o hb e=>(sb.2 b hb).trans e) f0 f1 f3 f4 f5
  obtain⟨o,e,c,d⟩:=id st'
  exact⟨u,rfl,zlC (s:={s with heap:=h'}) e c d (by decide) ⟨x,H,I1,ru,⟨rfl,λys hy=>by rw[I.tuple_inj hy hq];exact hx⟩,st',λb hb=>(hf b hb).1⟩⟩
 done:=by
  intro X hP hw hK hc i pins s σ H E I hf st hg
  subst hP hw hK
  obtain⟨xs,hq,hx⟩:=hg
  obtain⟨its,rv,p,hz⟩:=I.tuple hq
  obtain⟨f0,f1,f2,f3,f4,f5⟩:=hf it (by simp)
  have hl:=rv.length
  exact wpAny_pyNext_tuple_end (I.ok.hd hc) st (show s.heap.IsTuple a its.toArray from p) (by simp;omega) λh' eb=>⟨rfl,I.turned (t':=s.toks) (λb o hb e=>eb b o hb e) f0 f1 f3 f4 f5⟩
 self:=λ_ _ _ _ _ st h=>wpAny_pyIter_tupleiter st h
theorem zic {P:Program}{w:World}{K:Fg}{tg:Expr}(it:Addr) (lo:Int) (n:Nat):Turn P w K tg (Itr lo n) [it] it (λi h=>IsRangeIter h it (lo+(i:Nat) * 1) ((n:Int) - (i:Nat)) 1) where
 mem:=by simp
 obj:=λi h st b hb=>by
  have e:b=it:=by simpa using hb
  subst e
  exact⟨_,st,λv z=>by
   have z':Data.fields _=Data.cell v:=z
   cases z'⟩
 keep:=λi h h' st k=>k it (by simp) _ st
 item:=by
  intro X hP hw hK hc i pins s σ H E I hf st hg
  subst hP hw hK
  obtain⟨f0,f1,f2,f3,f4,f5⟩:=hf it (by simp)
  have W:=Walks.range (prog:=X.prog) (w:=X.w) (I.ok.hd hc) it lo 1 n
  refine W.item i s _ _ hg st λv h' tk hv st' kk=>?_
  obtain⟨t,rfl⟩:=hv
  have I1:Inv X pins σ H {s with heap:=h',toks:=tk}:=I.turned (λb o hb e=>kk b o (by simpa using hb) e) f0 f1 f3 f4 f5
  refine⟨_,rfl,zlC (s:={s with heap:=h',toks:=tk}) (n:="range_iterator") st' rfl rfl (by decide) ⟨.int (lo+i),H,I1,⟨t,?_⟩,⟨rfl,rfl⟩,st',λb hb=>(hf b hb).1⟩⟩
  rw[Int.mul_one]
 done:=by
  intro X hP hw hK hc i pins s σ H E I hf st hg
  subst hP hw hK
  obtain⟨f0,f1,f2,f3,f4,f5⟩:=hf it (by simp)
  exact wpAny_pyNext_range_end (I.ok.hd hc) st (by have:n≤i:=hg;omega) λh' eb=>⟨rfl,I.turned (t':=s.toks) (λb o hb e=>eb b o hb e) f0 f1 f3 f4 f5⟩
 self:=λ_ _ _ _ _ st h=>wpAny_pyIter_rangeiter st h
end L2

namespace L2
open PySem PySem.Spec PyProof.Rows
section
variable {X : Cx} {tg : Expr}
def zlD (K:Fg) (tl:TE):TI:=λσ H R=>tl σ H λx H1=>∃ a,x=.ref a∧(∃ xs,SqL K H1 a xs)∧R (Itl K a) H1
def iTup (K:Fg) (tl:TE):TI:=λσ H R=>tl σ H λx H1=>∃ a,x=.ref a∧(∃ xs,SqT K H1 a xs)∧R (Itt K a) H1
theorem zlE {l:Expr}{tl:TE}(hl:PE X l tl):PI X tg l (zlD X.K tl):=by
 intro pins s σ H R I h
 refine thn (hl pins s σ H _ I h) λv s1 ⟨x,H1,I1,r1,q1⟩=>?_
 obtain⟨a,e,⟨xs,hq⟩,q⟩:=q1
 subst e
 cases r1
 obtain⟨its,rv,p,hz⟩:=I1.list hq
 refine wpAny_pyIter_list p.isList ?_
 refine⟨s1.heap.objs.size,[s1.heap.objs.size],_,_,H1,rfl,I1.kept (t':=s1.toks) λb o e=>Heap.get?_push_of_some _ e,zi5 a _,⟨_,Heap.get?_push_size _ rfl,rfl,rfl⟩,λb hb=>?_,q⟩
 have e:b=s1.heap.objs.size:=by simpa using hb
 subst e
 exact I1.fpOk (Nat.le_refl _) (I1.hok.fresh (Nat.le_refl _))
theorem zmF {l:Expr}{tl:TE}(hl:PE X l tl):PI X tg l (iTup X.K tl):=by
 intro pins s σ H R I h
 refine thn (hl pins s σ H _ I h) λv s1 ⟨x,H1,I1,r1,q1⟩=>?_
 obtain⟨a,e,⟨xs,hq⟩,q⟩:=q1
 subst e
 cases r1
 obtain⟨its,rv,p,hz⟩:=I1.tuple hq
 refine wpAny_pyIter_tuple (show s1.heap.IsTuple a its.toArray from p) ?_
 refine⟨s1.heap.objs.size,[s1.heap.objs.size],_,_,H1,rfl,I1.kept (t':=s1.toks) λb o e=>Heap.get?_push_of_some _ e,zib a _,⟨_,Heap.get?_push_size _ rfl,rfl,rfl⟩,λb hb=>?_,q⟩
 have e:b=s1.heap.objs.size:=by simpa using hb
 subst e
 exact I1.fpOk (Nat.le_refl _) (I1.hok.fresh (Nat.le_refl _))
theorem zkk {pins:List (Addr × Obj)}{σ:St}{H:Hp}{s:Shared}{R:It→Hp→Prop}{E:Value→Shared→Prop}{lo hi:Int}{t u v:Tok}{tk:Nat}(I:Inv X pins σ H s) (h1:-(2 ^ 62)≤lo) (h2:lo<2 ^ 62) (h3:-(2 ^ 62)≤hi) (h4:hi<2 ^ 62)
  (q:R (Itr lo (hi - lo).toNat) H):wpAny (model X.prog X.w) X.A (pyIter (.ref s.heap.objs.size)) (PIE X pins σ tg R) E {s with heap:=s.heap.push {cls:=.type "range",data:=.fields #[.int lo t,.int hi u,.int 1 v]},toks:=tk}:=by
 refine wpAny_pyIter_range (IsRange.new ..) (small_one h1 h2 h3 h4) ?_
 have I1:Inv X pins σ H {s with heap:=s.heap.push {cls:=.type "range",data:=.fields #[.int lo t,.int hi u,.int 1 v]},toks:=tk}:=I.kept λb o e=>Heap.get?_push_of_some _ e
 refine⟨(s.heap.push {cls:=.type "range",data:=.fields #[.int lo t,.int hi u,.int 1 v]}).objs.size,[(s.heap.push {cls:=.type "range",data:=.fields #[.int lo t,.int hi u,.int 1 v]}).objs.size],_,_,H,rfl,
  I1.kept (t':=tk) λb o e=>Heap.get?_push_of_some _ e,zic _ lo (hi - lo).toNat,?_,λb hb=>?_,q⟩
 ·have e1:lo+((0:Nat):Int) * 1=lo:=by simp
  have e2:(((hi - lo).toNat:Nat):Int) - ((0:Nat):Int)=Builtin.Range.rangeSize lo hi 1:=by rw[rangeSize_one];split <;> omega
  show IsRangeIter _ _ (lo+((0:Nat):Int) * 1) ((((hi - lo).toNat:Nat):Int) - ((0:Nat):Int)) 1
  rw[e1,e2]
  exact Heap.get?_push_size _ rfl
 ·have e:b=(s.heap.push {cls:=.type "range",data:=.fields #[.int lo t,.int hi u,.int 1 v]}).objs.size:=by simpa using hb
  subst e
  exact I1.fpOk (Nat.le_refl _) (I1.hok.fresh (Nat.le_refl _))
def zmG (ta:TA):TI:=λσ H R=>ta σ H λvs H1=>∃ j:Int,vs=[.int j]∧-(2 ^ 62)≤j∧j<2 ^ 62∧R (Itr 0 j.toNat) H1
theorem zbd {a:Expr}{ta:TA}{p pos:Pos}(hg:Gl X "range") (hm:X.mg "range"=none) (ha:PA X [a] ta) (hs:starEach [a] X.env=[(false,eval a X.env)]:=by rfl):PI X tg (.Call (.Name "range" p) [a] [] pos) (zmG ta):=by
 intro pins s σ H R I h
 refine Call_ (zf4 I hg hm boot_range (PyProof.Rows.callWith_type1 (thn (ha pos pins s σ H _ I h) λus s1 ⟨vs,H1,I1,r1,q1⟩=>?_) hs rfl))
 obtain⟨j,e,q1,q2,q⟩:=q1
 subst e
 cases r1 with
 | cons r rr=>
  cases rr
  obtain⟨t,rfl⟩:=r
  exact call_range_1 (zkk I1 (by omega) (by omega) q1 q2 (by simpa using q))
def tFor (wi:TI) (g:TG) (tb:TS):TS:=λD σ H=>wi σ H λJ H1=>∃ W:Nat→Nat→St→Hp→Prop,(∃ m,W 0 m σ H1)∧∀ i m σ H,W i m σ H→
 (J.stop i H∧D.nx σ H)∨(J.go i H∧∃ N:St→Hp→Prop,(∀ σ' H',N σ' H'→∃ m',m'<m∧W (i+1) m' σ' H')∧∀ x H',J.yld i H x H'→g x σ H' λσ2 H2=>tb {D with nx:=N,ct:=N,bk:=D.nx} σ2 H2)
def zf6 (fp:List Addr) (h:Heap):List (Addr × Obj):=fp.filterMap λb=>(h.get? b).map λo=>(b,o)
theorem zc9 {fp:List Addr}{h:Heap}{b:Addr}{o:Obj}(hb:b∈fp) (e:h.get? b=some o):(b,o)∈zf6 fp h:=List.mem_filterMap.mpr ⟨b,hb,by rw[e];rfl⟩
theorem zi6 {fp:List Addr}{h:Heap}{p:Addr × Obj}(hp:p∈zf6 fp h):p.1∈fp∧h.get? p.1=some p.2:=by
 obtain⟨b,hb,e⟩:=List.mem_filterMap.mp hp
 cases q:h.get? b with
 | none=>rw[q] at e;cases e
 | some o=>
  rw[q] at e
  have e':(b,o)=p:=Option.some.inj e
  subst e'
  exact⟨hb,q⟩
theorem Inv.pinned {pins:List (Addr × Obj)}{σ:St}{H:Hp}{s:Shared}{fp:List Addr}(I:Inv X pins σ H s) (hf:∀ b∈fp,FpOk X pins H b) (ho:∀ b∈fp,∃ o,s.heap.get? b=some o∧∀ v,o.data≠.cell v):Inv X (pins++zf6 fp s.heap) σ H s:=
 I.pins_of λp hp=>(zma.mp hp).elim (λz=>I.pin p (List.mem_append_right _ z)) λz=>by
  obtain⟨hb,e⟩:=zi6 z
  obtain⟨f0,f1,f2,_⟩:=hf p.1 hb
  obtain⟨o,e',d⟩:=ho p.1 hb
  rw[e] at e';cases e'
  exact⟨e,f0,f1,f2,d⟩
theorem Inv.unpinned {pins pl:List (Addr × Obj)}{σ:St}{H:Hp}{s:Shared}(I:Inv X (pins++pl) σ H s):Inv X pins σ H s:=I.pins_of λp hp=>I.pin p (List.mem_append_right _ (List.mem_append_left _ hp))
theorem zcK {iter:Expr}{body:List Stmt}{wi:TI}{g:TG}{tb:TS}{pos:Pos}(hp:PassesOwn (model X.prog X.w) X.A X.env X.xe) (hc:X.calm=true) (hi:PI X tg iter wi) (hg:PG X tg g) (hb:PSs X body tb)
  (hs:∀ x,foldedSetIterable iter X.env x=pure x:=by intro _;rfl):PS X (.For tg iter body [] pos) (tFor wi g tb):=by
 intro pins s σ H D I h
 refine wpAny_For (thn (hi pins s σ H _ I h) λv s1 h1=>thn h1 λitv s2 h2=>?_) hs
 obtain⟨it,fp,tn,J,H2,e,I2,T,st2,f2,W,⟨m0,w0⟩,turn⟩:=h2
 subst e
 -- what stays true of the iterator's objects through the loop
 have stat:∀ {H':Hp},(∀ b∈fp,H' b=none)→∀ b∈fp,FpOk X pins H' b:=λhn b hb=>⟨hn b hb,(f2 b hb).2⟩
 refine codeAny_forLoop_any (λn s'=>∃ i σ' H',Inv X pins σ' H' s'∧tn i s'.heap∧(∀ b∈fp,H' b=none)∧W i n σ' H') ?_ m0 ⟨0,σ,H2,I2,st2,λb hb=>(f2 b hb).1,w0⟩
 rintro n s3 ⟨i,σ3,H3,I3,st3,fr3,w3⟩
 rcases turn i n σ3 H3 w3 with ⟨stop,qn⟩ | ⟨go,N,hN,step⟩
 ·refine wpAny_passesOwn hp (thn (T.done X rfl rfl rfl hc i pins s3 σ3 H3 X.xe I3 (stat fr3) st3 stop) λr s4 ⟨hr,I4⟩=>?_)
  subst hr
  exact wpAny_execs_nil ⟨σ3,H3,I4,qn⟩
 ·refine wpAny_passesOwn hp (thn (T.item X rfl rfl rfl hc i pins s3 σ3 H3 X.xe I3 (stat fr3) st3 go) λr s4 ⟨u,hr,h4⟩=>?_)
  subst hr
  refine wpAny_passesOwn hp (thn h4 λ_ s5 ⟨x,H5,I5,r5,y5,st5,fr5⟩=>?_)
  have I5':=I5.pinned (stat fr5) (T.obj _ _ st5)
  refine wpAny_passesOwn hp (thn (hg _ s5 σ3 H5 x u _ I5' r5 (step x H5 y5)) λ_ s6 ⟨σ6,H6,I6,q6⟩=>?_)
  refine wpAny_passesOwn hp (thn (hb _ s6 σ6 H6 _ I6 q6) λf s7 q7=>?_)
  have again:∀ {σ7:St}{H7:Hp},Inv X (pins++zf6 fp s5.heap) σ7 H7 s7→N σ7 H7→∃ m,m<n∧∃ i σ' H',Inv X pins σ' H' s7∧tn i s7.heap∧(∀ b∈fp,H' b=none)∧W i m σ' H':=λ{σ7 H7} I7 n7=>by
   obtain⟨m',hm,w7⟩:=hN σ7 H7 n7
   refine⟨m',hm,i+1,σ7,H7,I7.unpinned,T.keep _ _ _ st5 λb hb o e=>(I7.pin (b,o) (List.mem_append_right _ (List.mem_append_right _ (zc9 hb e)))).1,λb hb=>?_,w7⟩
   obtain⟨o,e,d⟩:=T.obj _ _ st5 b hb
   exact (I7.pin (b,o) (List.mem_append_right _ (List.mem_append_right _ (zc9 hb e)))).2.1
  cases f with
  | next=>obtain⟨σ7,H7,I7,n7⟩:=q7;exact again I7 n7
  | cont=>obtain⟨σ7,H7,I7,n7⟩:=q7;exact again I7 n7
  | brk=>obtain⟨σ7,H7,I7,q7⟩:=q7;exact⟨σ7,H7,I7.unpinned,q7⟩
  | ret v=>obtain⟨x7,σ7,H7,I7,r7,q7⟩:=q7;exact⟨x7,σ7,H7,I7.unpinned,r7,q7⟩
end

theorem zkl {K:Fg}{a:Addr}{xs:List V}{g:TG}{tb:TS}{D:Ends}{σ:St}{H:Hp}(Pv:Nat→St→Hp→Prop) (h0:Pv 0 σ H) (hl:∀ i σ H,i≤xs.length→Pv i σ H→SqL K H a xs)
  (hs:∀ i x σ H,xs[i]?=some x→Pv i σ H→g x σ H λσ2 H2=>tb {D with nx:=Pv (i+1),ct:=Pv (i+1),bk:=D.nx} σ2 H2) (hd:∀ σ H,Pv xs.length σ H→D.nx σ H) :
  ∃ W:Nat→Nat→St→Hp→Prop,(∃ m,W 0 m σ H)∧∀ i m σ H,W i m σ H→
   ((Itl K a).stop i H∧D.nx σ H)∨((Itl K a).go i H∧∃ N:St→Hp→Prop,(∀ σ' H',N σ' H'→∃ m',m'<m∧W (i+1) m' σ' H')∧∀ x H',(Itl K a).yld i H x H'→g x σ H' λσ2 H2=>tb {D with nx:=N,ct:=N,bk:=D.nx} σ2 H2):=by
 refine⟨λi m σ H=>m=xs.length - i∧i≤xs.length∧Pv i σ H,⟨xs.length,by simp,Nat.zero_le _,h0⟩,?_⟩
 rintro i m σ H ⟨rfl,hi,p⟩
 have q:=hl i σ H hi p
 by_cases hlt:i<xs.length
 ·refine .inr ⟨⟨xs,xs[i],q,by simp[hlt]⟩,Pv (i+1),λσ' H' p'=>⟨xs.length - (i+1),by omega,rfl,hlt,p'⟩,λx H' y=>?_⟩
  obtain⟨e,y⟩:=y
  subst e
  exact hs i x σ _ (y xs q) p
 ·have e:i=xs.length:=by omega
  subst e
  exact .inl ⟨⟨xs,q,Nat.le_refl _⟩,hd σ H p⟩
theorem zi7 {lo:Int}{n:Nat}{g:TG}{tb:TS}{D:Ends}{σ:St}{H:Hp}(Pv:Nat→St→Hp→Prop) (h0:Pv 0 σ H)
  (hs:∀ i σ H,i<n→Pv i σ H→g (.int (lo+i)) σ H λσ2 H2=>tb {D with nx:=Pv (i+1),ct:=Pv (i+1),bk:=D.nx} σ2 H2) (hd:∀ σ H,Pv n σ H→D.nx σ H) :
  ∃ W:Nat→Nat→St→Hp→Prop,(∃ m,W 0 m σ H)∧∀ i m σ H,W i m σ H→
   ((Itr lo n).stop i H∧D.nx σ H)∨((Itr lo n).go i H∧∃ N:St→Hp→Prop,(∀ σ' H',N σ' H'→∃ m',m'<m∧W (i+1) m' σ' H')∧∀ x H',(Itr lo n).yld i H x H'→g x σ H' λσ2 H2=>tb {D with nx:=N,ct:=N,bk:=D.nx} σ2 H2):=by
 refine⟨λi m σ H=>m=n - i∧i≤n∧Pv i σ H,⟨n,by simp,Nat.zero_le _,h0⟩,?_⟩
 rintro i m σ H ⟨rfl,hi,p⟩
 by_cases hlt:i<n
 ·refine .inr ⟨hlt,Pv (i+1),λσ' H' p'=>⟨n - (i+1),by omega,rfl,hlt,p'⟩,λx H' y=>?_⟩
  obtain⟨e,y⟩:=y
  subst e y
  exact hs i σ _ hlt p
 ·have e:i=n:=by omega
  subst e
  exact .inl ⟨Nat.le_refl _,hd σ H p⟩
end L2

namespace L2
open PySem PySem.Spec PyProof.Rows

abbrev R2:=V→V→Hp→VK→Prop
def OpR (X:Cx) (f:Value→Value→Sem Value) (r:R2):Prop:=
 ∀ (pins:List (Addr × Obj)) (s:Shared) (σ:St) (H:Hp) (x y:V) (v u:Value) (Q:VK),Inv X pins σ H s→RelV x v→RelV y u→r x y H Q→
  wpAny (model X.prog X.w) X.A (f v u) (EP X pins σ Q) X.xe s
def UnR (X:Cx) (f:Value→Sem Value) (r:V→Hp→VK→Prop):Prop:=
 ∀ (pins:List (Addr × Obj)) (s:Shared) (σ:St) (H:Hp) (x:V) (v:Value) (Q:VK),Inv X pins σ H s→RelV x v→r x H Q→
  wpAny (model X.prog X.w) X.A (f v) (EP X pins σ Q) X.xe s
def zbZ (X:Cx) (f:Value) (r:List V→Hp→VK→Prop):Prop:=
 ∀ (pins:List (Addr × Obj)) (s:Shared) (σ:St) (H:Hp) (xs:List V) (us:List Value) (Q:VK),Inv X pins σ H s→Vals xs us→r xs H Q→
  wpAny (model X.prog X.w) X.A (call f us) (EP X pins σ Q) X.xe s
def tOp (r:R2) (ta tb:TE):TE:=λσ H Q=>ta σ H λx H1=>tb σ H1 λy H2=>r x y H2 Q
def tUn (r:V→Hp→VK→Prop) (ta:TE):TE:=λσ H Q=>ta σ H λx H1=>r x H1 Q
def rI (C:Int→Int→Prop) (g:Int→Int→V):R2:=λx y H Q=>∃ i j,x=.int i∧y=.int j∧C i j∧Q (g i j) H
def rI0 (g:Int→Int→V):R2:=λx y H Q=>∃ i j,x=.int i∧y=.int j∧Q (g i j) H
def rU (g:Int→V):V→Hp→VK→Prop:=λx H Q=>∃ i,x=.int i∧Q (g i) H
section
variable {X : Cx} {a b c : Expr} {ta tb tc : TE} {pos : Pos}

theorem binT (ha:PE X a ta) (hb:PE X b tb) {pins:List (Addr × Obj)}{s:Shared}{σ:St}{H:Hp}{R:V→V→Hp→Prop}(I:Inv X pins σ H s)
  (h:ta σ H λx H1=>tb σ H1 λy H2=>R x y H2) {Q:Value→Shared→Prop}{f:Value→Value→Sem Value}
  (hf:∀ v u s2 x y H2,Inv X pins σ H2 s2→RelV x v→RelV y u→R x y H2→wpAny (model X.prog X.w) X.A (f v u) Q X.xe s2) :
  wpAny (model X.prog X.w) X.A (eval a X.env) (λv s₁=>wpAny (model X.prog X.w) X.A (eval b X.env) (λu s₂=>wpAny (model X.prog X.w) X.A (f v u) Q X.xe s₂) X.xe s₁) X.xe s:=by
 refine thn (ha pins s σ H _ I h) λv s1 ⟨x,H1,I1,r1,q1⟩=>?_
 refine thn (hb pins s1 σ H1 _ I1 q1) λu s2 ⟨y,H2,I2,r2,q2⟩=>?_
 exact hf v u s2 x y H2 I2 r1 r2 q2
theorem zau {op:Operator}{r:R2}(ho:OpR X (binaryOp op) r) (ha:PE X a ta) (hb:PE X b tb):PE X (.BinOp a op b pos) (tOp r ta tb):=by
 intro pins s σ H Q I h
 exact wpAny_BinOp (binT ha hb I h λv u s2 x y H2 I2 rx ry q=>ho pins s2 σ H2 x y v u Q I2 rx ry q)
theorem zdG {op:UnaryOp}{r:V→Hp→VK→Prop}(ho:UnR X (unaryOp op) r) (ha:PE X a ta):PE X (.UnaryOp op a pos) (tUn r ta):=by
 intro pins s σ H Q I h
 exact UnaryOp_ (thn (ha pins s σ H _ I h) λv s1 ⟨x,H1,I1,r1,q1⟩=>ho pins s1 σ H1 x v Q I1 r1 q1)
theorem opI {f:Value→Value→Sem Value}{C:Int→Int→Prop}{g:Int→Int→Int}
  (rule:∀ (i j:Int) (t u:Tok) (s:Shared) (Q:Value→Shared→Prop) (E:Value→Shared→Prop),C i j→Q (.int (g i j) s.toks) {s with toks:=s.toks+1}→wpAny (model X.prog X.w) X.A (f (.int i t) (.int j u)) Q E s) :
  OpR X f (rI C λi j=>.int (g i j)):=by
 intro pins s σ H x y v u Q I rx ry h
 obtain⟨i,j,rfl,rfl,hc,q⟩:=h
 obtain⟨t,rfl⟩:=rx
 obtain⟨t',rfl⟩:=ry
 exact rule i j t t' s _ _ hc ⟨.int (g i j),H,I.tok _,⟨_,rfl⟩,q⟩
theorem opI0 {f:Value→Value→Sem Value}{g:Int→Int→Int}
  (rule:∀ (i j:Int) (t u:Tok) (s:Shared) (Q:Value→Shared→Prop) (E:Value→Shared→Prop),Q (.int (g i j) s.toks) {s with toks:=s.toks+1}→wpAny (model X.prog X.w) X.A (f (.int i t) (.int j u)) Q E s) :
  OpR X f (rI0 λi j=>.int (g i j)):=by
 intro pins s σ H x y v u Q I rx ry h
 obtain⟨i,j,rfl,rfl,q⟩:=h
 obtain⟨t,rfl⟩:=rx
 obtain⟨t',rfl⟩:=ry
 exact rule i j t t' s _ _ ⟨.int (g i j),H,I.tok _,⟨_,rfl⟩,q⟩
theorem opB0 {f:Value→Value→Sem Value}{g:Int→Int→Bool}
  (rule:∀ (i j:Int) (t u:Tok) (s:Shared) (Q:Value→Shared→Prop) (E:Value→Shared→Prop),Q (.bool (g i j)) s→wpAny (model X.prog X.w) X.A (f (.int i t) (.int j u)) Q E s) :
  OpR X f (rI0 λi j=>.bl (g i j)):=by
 intro pins s σ H x y v u Q I rx ry h
 obtain⟨i,j,rfl,rfl,q⟩:=h
 obtain⟨t,rfl⟩:=rx
 obtain⟨t',rfl⟩:=ry
 exact rule i j t t' s _ _ ⟨.bl (g i j),H,I,rfl,q⟩
def CDiv (i j:Int):Prop:=0<j∧j<1073741824
def CPow (i j:Int):Prop:=0≤j∧j≤1000000∧i.natAbs<2 ^ 64
def CMul (i j:Int):Prop:=(-(2 ^ 64)<i∧i<2 ^ 64)∨(-(2 ^ 64)<j∧j<2 ^ 64)
theorem CMul.ok {i j:Int}(h:CMul i j):IntMulOk i j:=by
 rcases h with ⟨h1,h2⟩ | ⟨h1,h2⟩
 ·exact .of_left (intBits_le_64 h1 h2)
 ·exact .of_right (intBits_le_64 h1 h2)
theorem zmH:OpR X (binaryOp .Add) (rI0 λi j=>.int (i+j)):=opI0 λ_ _ _ _ _ _ _ q=>add_int q
theorem zex:OpR X (binaryOp .Sub) (rI0 λi j=>.int (i - j)):=opI0 λ_ _ _ _ _ _ _ q=>sub_int q
theorem zmI:OpR X (binaryOp .Mult) (rI CMul λi j=>.int (i * j)):=opI λ_ _ _ _ _ _ _ hc q=>mul_int q hc.ok
theorem zdw:OpR X (binaryOp .FloorDiv) (rI CDiv λi j=>.int (i / j)):=opI λi j _ _ _ _ _ hc q=>by
 have h1:(0:Int)<j:=hc.1
 have h2:j<1073741824:=hc.2
 exact floordiv_int (by omega) (by rw[Int.fdiv_eq_ediv_of_nonneg i (by omega)];exact q) (.inl (PyProof.noPylong_small (by omega)))
theorem zcQ:OpR X (binaryOp .Mod) (rI (λ_ j=>0<j) λi j=>.int (i % j)):=opI λi j _ _ _ _ _ hc q=>by
 have h1:(0:Int)<j:=hc
 exact mod_int' (by omega) (by rw[Int.fmod_eq_emod_of_nonneg i (by omega)];exact q)
theorem zhI:OpR X (binaryOp .Pow) (rI CPow λi j=>.int (i ^ j.toNat)):=opI λ_ _ _ _ _ _ _ hc q=>pow_int_small hc.1 hc.2.1 hc.2.2 q
theorem unI {f:Value→Sem Value}{g:Int→Int}
  (rule:∀ (i:Int) (t:Tok) (s:Shared) (Q:Value→Shared→Prop) (E:Value→Shared→Prop),Q (.int (g i) s.toks) {s with toks:=s.toks+1}→wpAny (model X.prog X.w) X.A (f (.int i t)) Q E s) :
  UnR X f (rU λi=>.int (g i)):=by
 intro pins s σ H x v Q I rx h
 obtain⟨i,rfl,q⟩:=h
 obtain⟨t,rfl⟩:=rx
 exact rule i t s _ _ ⟨.int (g i),H,I.tok _,⟨_,rfl⟩,q⟩
theorem zch:UnR X (unaryOp .USub) (rU λi=>.int (-i)):=unI λ_ _ _ _ _ q=>neg_int q
end

def scal:V→V→Bool
 | .non,.non=>true | .non,.int _=>true | .int _,.non=>true | .non,.bl _=>true | .bl _,.non=>true | .non,.str _=>true | .str _,.non=>true
 | .int _,.int _=>true | .bl _,.bl _=>true | .str _,.str _=>true | .byt _,.byt _=>true
 | .int _,.str _=>true | .str _,.int _=>true | .bl _,.str _=>true | .str _,.bl _=>true
 | _,_=>false
def rEq:R2:=λx y H Q=>scal x y=true∧Q (.bl (decide (x=y))) H
def rNe:R2:=λx y H Q=>scal x y=true∧Q (.bl (!decide (x=y))) H
theorem zi8 {i j:Int} : decide (V.int i=V.int j)=(i == j):=by
 rw[Bool.eq_iff_iff]
 simp
theorem zk7 {i j:Bool} : decide (V.bl i=V.bl j)=(i == j):=by
 rw[Bool.eq_iff_iff]
 simp
theorem zi9 {i j:Str} : decide (V.str i=V.str j)=(i == j):=by
 rw[Bool.eq_iff_iff]
 simp
theorem zja {i j:Array UInt8} : decide (V.byt i=V.byt j)=(i.toList == j.toList):=by
 rw[Bool.eq_iff_iff]
 cases i
 cases j
 simp
section
variable {X : Cx} {a b c : Expr} {ta tb tc : TE} {pos : Pos}
theorem zba {pins:List (Addr × Obj)}{σ:St}{H:Hp}{s:Shared}{Q:VK}{k k':Bool}(I:Inv X pins σ H s) (q:Q (.bl k) H) (e:k=k'):EP X pins σ Q (.bool k') s:=by
 subst e
 exact⟨.bl k,H,I,rfl,q⟩
theorem op_eq:OpR X (compareOp .Eq) rEq:=by
 intro pins s σ H x y v u Q I rx ry h
 obtain⟨hs,q⟩:=h
 cases x with
 | non=>
  cases rx
  cases y with
  | non=>cases ry;exact PySem.EqNone.eq_none_none (zba I q (by simp))
  | bl j=>cases ry;exact PySem.EqNone.eq_none_bool (zba I q (by simp))
  | int j=>obtain⟨t',rfl⟩:=ry;exact PySem.EqNone.eq_none_int (zba I q (by simp))
  | str j=>obtain⟨t',rfl⟩:=ry;exact PySem.EqNone.eq_none_str (zba I q (by simp))
  | _=>exact absurd (show false=true from hs) Bool.false_ne_true
 | bl i=>
  cases rx
  cases y with
  | non=>cases ry;exact PySem.EqNone.eq_bool_none (zba I q (by simp))
  | bl j=>cases ry;exact eq_bool (zba I q zk7)
  | str j=>obtain⟨t',rfl⟩:=ry;exact PySem.EqMixed.eq_bool_str (zba I q (by simp))
  | _=>exact absurd (show false=true from hs) Bool.false_ne_true
 | int i=>
  obtain⟨t,rfl⟩:=rx
  cases y with
  | non=>cases ry;exact PySem.EqNone.eq_int_none (zba I q (by simp))
  | int j=>obtain⟨t',rfl⟩:=ry;exact eq_int (zba I q zi8)
  | str j=>obtain⟨t',rfl⟩:=ry;exact PySem.EqMixed.eq_int_str (zba I q (by simp))
  | _=>exact absurd (show false=true from hs) Bool.false_ne_true
 | str i=>
  obtain⟨t,rfl⟩:=rx
  cases y with
  | non=>cases ry;exact PySem.EqNone.eq_str_none (zba I q (by simp))
  | bl j=>cases ry;exact PySem.EqMixed.eq_str_bool (zba I q (by simp))
  | int j=>obtain⟨t',rfl⟩:=ry;exact PySem.EqMixed.eq_str_int (zba I q (by simp))
  | str j=>obtain⟨t',rfl⟩:=ry;exact eq_str (zba I q zi9)
  | _=>exact absurd (show false=true from hs) Bool.false_ne_true
 | byt i=>
  obtain⟨t,rfl⟩:=rx
  cases y with
  | byt j=>obtain⟨t',rfl⟩:=ry;exact PySem.W.eq_bytes (zba I q zja)
  | _=>exact absurd (show false=true from hs) Bool.false_ne_true
 | _=>cases y <;> exact absurd (show false=true from hs) Bool.false_ne_true
theorem op_ne:OpR X (compareOp .NotEq) rNe:=by
 intro pins s σ H x y v u Q I rx ry h
 obtain⟨hs,q⟩:=h
 cases x with
 | non=>
  cases rx
  cases y with
  | non=>cases ry;exact PySem.EqNone.ne_none_none (zba I q (by simp))
  | bl j=>cases ry;exact PySem.EqNone.ne_none_bool (zba I q (by simp))
  | int j=>obtain⟨t',rfl⟩:=ry;exact PySem.EqNone.ne_none_int (zba I q (by simp))
  | str j=>obtain⟨t',rfl⟩:=ry;exact PySem.EqNone.ne_none_str (zba I q (by simp))
  | _=>exact absurd (show false=true from hs) Bool.false_ne_true
 | bl i=>
  cases rx
  cases y with
  | non=>cases ry;exact PySem.EqNone.ne_bool_none (zba I q (by simp))
  | bl j=>cases ry;exact ne_bool (zba I q (congrArg not zk7))
  | str j=>obtain⟨t',rfl⟩:=ry;exact PySem.EqMixed.ne_bool_str (zba I q (by simp))
  | _=>exact absurd (show false=true from hs) Bool.false_ne_true
 | int i=>
  obtain⟨t,rfl⟩:=rx
  cases y with
  | non=>cases ry;exact PySem.EqNone.ne_int_none (zba I q (by simp))
  | int j=>obtain⟨t',rfl⟩:=ry;exact ne_int (zba I q (congrArg not zi8))
  | str j=>obtain⟨t',rfl⟩:=ry;exact PySem.EqMixed.ne_int_str (zba I q (by simp))
  | _=>exact absurd (show false=true from hs) Bool.false_ne_true
 | str i=>
  obtain⟨t,rfl⟩:=rx
  cases y with
  | non=>cases ry;exact PySem.EqNone.ne_str_none (zba I q (by simp))
  | bl j=>cases ry;exact PySem.EqMixed.ne_str_bool (zba I q (by simp))
  | int j=>obtain⟨t',rfl⟩:=ry;exact PySem.EqMixed.ne_str_int (zba I q (by simp))
  | str j=>obtain⟨t',rfl⟩:=ry;exact ne_str (zba I q (congrArg not zi9))
  | _=>exact absurd (show false=true from hs) Bool.false_ne_true
 | byt i=>
  obtain⟨t,rfl⟩:=rx
  cases y with
  | byt j=>obtain⟨t',rfl⟩:=ry;exact PySem.W.ne_bytes (zba I q (congrArg not zja))
  | _=>exact absurd (show false=true from hs) Bool.false_ne_true
 | _=>cases y <;> exact absurd (show false=true from hs) Bool.false_ne_true
theorem zmJ:OpR X (compareOp .Lt) (rI0 λi j=>.bl (decide (i<j))):=opB0 λ_ _ _ _ _ _ _ q=>lt_int q
theorem zmK:OpR X (compareOp .LtE) (rI0 λi j=>.bl (decide (i≤j))):=opB0 λ_ _ _ _ _ _ _ q=>le_int q
theorem op_gt:OpR X (compareOp .Gt) (rI0 λi j=>.bl (decide (j<i))):=opB0 λ_ _ _ _ _ _ _ q=>gt_int q
theorem OpR.or {f:Value→Value→Sem Value}{r r':R2}(h:OpR X f r) (h':OpR X f r'):OpR X f (λx y H Q=>r x y H Q∨r' x y H Q):=by
 intro pins s σ H x y v u Q I rx ry q
 rcases q with q | q
 ·exact h pins s σ H x y v u Q I rx ry q
 ·exact h' pins s σ H x y v u Q I rx ry q
theorem za1 (b:Expr) {op:CmpOp}(h:op≠.In:=by decide) (h2:op≠.NotIn:=by decide):behindInMarks op b=false:=by
 have e1:(op == CmpOp.In)=false:=by cases op <;> first | rfl | exact absurd rfl h
 have e2:(op == CmpOp.NotIn)=false:=by cases op <;> first | rfl | exact absurd rfl h2
 cases b <;> simp[behindInMarks,e1,e2]
theorem zg8 {op:CmpOp}{r:R2}(ho:OpR X (compareOp op) r) (ha:PE X a ta) (hb:PE X b tb) (hm:behindInMarks op b=false):PE X (.Compare a [op] [b] pos) (tOp r ta tb):=by
 intro pins s σ H Q I h
 exact wpAny_Compare1 (binT ha hb I h λv u s2 x y H2 I2 rx ry q=>ho pins s2 σ H2 x y v u Q I2 rx ry q) hm
def zmL (t:TE):TT:=λσ H Q=>t σ H λx H'=>∃ k,x=.bl k∧Q k H'
theorem zaR {op:CmpOp}{r:R2}(ho:OpR X (compareOp op) r) (ha:PE X a ta) (hb:PE X b tb) (hm:behindInMarks op b=false):PT X (.Compare a [op] [b] pos) (zmL (tOp r ta tb)):=by
 intro pins s σ H Q I h
 refine wpAny_isTrue_Compare1 (thn (ha pins s σ H _ I h) λv s1 ⟨x,H1,I1,r1,q1⟩=>thn (hb pins s1 σ H1 _ I1 q1) λu s2 ⟨y,H2,I2,r2,q2⟩=>
  thn (ho pins s2 σ H2 x y v u _ I2 r1 r2 q2) λc s3 ⟨z,H3,I3,r3,k,e,q3⟩=>?_) hm
 subst e
 cases r3
 exact wpAny_truthy_bool ⟨H3,I3,q3⟩
def zk8 (r r':R2) (ta tb tc:TE):TE:=λσ H Q=>ta σ H λx H1=>tb σ H1 λy H2=>r x y H2 λz H3=>∃ k,z=.bl k∧
 (if k=true then tc σ H3 λw' H4=>r' y w' H4 Q else Q (.bl false) H3)
theorem zkm {op op':CmpOp}{r r':R2}(ho:OpR X (compareOp op) r) (ho':OpR X (compareOp op') r') (ha:PE X a ta) (hb:PE X b tb) (hc:PE X c tc)
  (hm:lastMarks [op,op'] [b,c]=false:=by with_unfolding_all rfl):PE X (.Compare a [op,op'] [b,c] pos) (zk8 r r' ta tb tc):=by
 intro pins s σ H Q I h
 refine Compare_chain (thn (ha pins s σ H _ I h) λv s1 ⟨x,H1,I1,r1,q1⟩=>chain_link (thn (hb pins s1 σ H1 _ I1 q1) λu s2 ⟨y,H2,I2,r2,q2⟩=>
  thn (ho pins s2 σ H2 x y v u _ I2 r1 r2 q2) λd s3 ⟨z,H3,I3,r3,k,e,q3⟩=>?_)) hm
 subst e
 cases r3
 refine wpAny_truthy_bool ?_
 cases k with
 | false=>exact ite_ff ⟨.bl false,H3,I3,rfl,q3⟩
 | true=>exact ite_tt (chain_last (thn (hc pins s3 σ H3 _ I3 q3) λw' s4 ⟨z',H4,I4,r4,q4⟩=>ho' pins s4 σ H4 y z' u w' Q I4 r2 r4 q4))
theorem zf7:(sizeLine:Nat)<2 ^ 63:=by rw[sizeLine_eq];decide
theorem zf8 {x:V}{us:List Value}(r:Vals [x] us):∃ u,us=[u]∧RelV x u:=by
 cases r with
 | cons r1 r2=>cases r2;exact⟨_,rfl,r1⟩
theorem zkn {x y:V}{us:List Value}(r:Vals [x,y] us):∃ u w',us=[u,w']∧RelV x u∧RelV y w':=by
 cases r with
 | cons r1 r2=>
  cases r2 with
  | cons r3 r4=>cases r4;exact⟨_,_,rfl,r1,r3⟩
theorem zjb (hc:X.calm=true):zbZ X (.builtin "max") (λxs H Q=>∃ i j,xs=[.int i,.int j]∧Q (.int (if j>i then j else i)) H):=by
 intro pins s σ H xs us Q I r h
 obtain⟨i,j,rfl,q⟩:=h
 obtain⟨u,w',rfl,⟨t,rfl⟩,⟨t',rfl⟩⟩:=zkn r
 refine max_two_ints (I.ok.hd hc) λh' tk k=>⟨_,H,I.kept k,?_,q⟩
 by_cases hj:j>i
 ·rw[if_pos hj,if_pos hj];exact⟨_,rfl⟩
 ·rw[if_neg hj,if_neg hj];exact⟨_,rfl⟩
theorem zjc (hc:X.calm=true):zbZ X (.builtin "min") (λxs H Q=>∃ i j,xs=[.int i,.int j]∧Q (.int (if j<i then j else i)) H):=by
 intro pins s σ H xs us Q I r h
 obtain⟨i,j,rfl,q⟩:=h
 obtain⟨u,w',rfl,⟨t,rfl⟩,⟨t',rfl⟩⟩:=zkn r
 refine min_two_ints (I.ok.hd hc) λh' tk k=>⟨_,H,I.kept k,?_,q⟩
 by_cases hj:j<i
 ·rw[if_pos hj,if_pos hj];exact⟨_,rfl⟩
 ·rw[if_neg hj,if_neg hj];exact⟨_,rfl⟩
theorem zjd:zbZ X (.type "int") (λxs H Q=>(∃ i,xs=[.int i]∧Q (.int i) H)∨∃ k,xs=[.bl k]∧Q (.int (if k then 1 else 0)) H):=by
 intro pins s σ H xs us Q I r h
 rcases h with ⟨i,rfl,q⟩ | ⟨k,rfl,q⟩
 ·obtain⟨u,rfl,t,rfl⟩:=zf8 r
  exact call_int_int ⟨.int i,H,I,⟨_,rfl⟩,q⟩
 ·obtain⟨u,rfl,r1⟩:=zf8 r
  cases r1
  exact call_int_bool ⟨.int (if k then 1 else 0),H,I.tok _,⟨_,rfl⟩,q⟩
end
end L2

namespace L2
open PySem PySem.Spec PyProof.Rows

structure ObjM (h:Heap) (x dx C:Addr) (mA:Str→Option Value):Prop where
 obj:h.get? x=some (PySem.W.instObj C dx)
 ns:h.Ns1 dx mA
 ne:dx≠x
theorem zje {h:Heap}{dx:Addr}{mA:Str→Option Value}(n:h.Ns1 dx mA):∃ od,h.get? dx=some od∧∀ name,PySem.W.lookIn name od=some (mA name):=by
 obtain⟨o,es,ep,ho,hd,hk,_,hm⟩:=n
 refine⟨o,ho,λname=>?_⟩
 have e:=hm name
 unfold nsFind findBy at e
 rw[←Array.find?_toList] at e
 unfold PySem.W.lookIn
 rw[hd]
 dsimp only
 split
 ·rename_i y q
  rw[q] at e
  exact congrArg some e
 ·rename_i q
  rw[q] at e
  have a:es.toList.any (·.refKey)=false:=by
   rw[List.any_eq_false]
   intro y hy
   obtain⟨z,t,hkey⟩:=hk y (Array.mem_toList_iff.mp hy)
   simp[DictEntry.refKey,hkey]
  have a':¬ es.toList.any (·.refKey)=true:=by rw[a];exact Bool.false_ne_true
  rw[if_neg a']
  exact congrArg some e
theorem ObjM.look {h:Heap}{x dx C:Addr}{mA:Str→Option Value}(I:ObjM h x dx C mA):∃ od,PySem.W.InstAt h x (PySem.W.instObj C dx) C (some od)∧∀ name,PySem.W.lookIn name od=some (mA name):=
 let ⟨od,ho,hl⟩:=zje I.ns
 ⟨od,⟨I.obj,rfl,rfl,ho⟩,hl⟩
section
variable {prog : Program} {w : World} {A : Around} {E : Value → Shared → Prop} {s : Shared} {K : Fg} {x dx C f : Addr} {mA : Str → Option Value} {name : Str} {v : Value}

theorem zlF {expr:Bool}{Q:Value→Shared→Prop}(X:K.In s.heap) (I:ObjM s.heap x dx C mA) (hg:PySem.W.plainGet K C name=true) (hh:PySem.W.hasDictIn K C=true)
  (ha:PySem.W.findIn K (.ref C) name=some none) (hv:mA name=some v) (hv':PySem.W.handedIn v=true) (h:Q v {s with toks:=s.toks+1}) :
  wpAny (model prog w) A (getAttr (.ref x) name expr) Q E s:=by
 obtain⟨od,J,hl⟩:=I.look
 exact PySem.W.get_value X J (PySem.W.plainGet_of hg).1 (PySem.W.findObj_own hh ha rfl (by rw[hl,hv])) hv' h
theorem zlG {ns:List Str}{Q:Unit→Shared→Prop}(X:K.In s.heap) (I:ObjM s.heap x dx C mA)
  (hs:PySem.W.findIn K (.ref C) "__setattr__"=some (some (.builtin "object.__setattr__"))) (hp:PySem.W.plainOver K C=true) (ht:PySem.W.takerIn K C name=some none) (hh:PySem.W.hasDictIn K C=true)
  (hw:PySem.Within mA ns) (hsz:ns.length≤sizeLine)
  (h:∀ h',ObjM h' x dx C (λy=>if y=name then some v else mA y)→Heap.SameBut dx s.heap h'→Q () {s with heap:=h',toks:=s.toks+2}) :
  wpAny (model prog w) A (setAttr (.ref x) name v) Q E s:=by
 obtain⟨od,J,hl⟩:=I.look
 refine PySem.W.set_plain X J hs (PySem.W.osa_open (s:={s with toks:=s.toks+1}) (r:=none) X J hp ht λb=>?_)
 obtain⟨cd,hc,hd'⟩:=PySem.W.any_some hh
 have hx:s.heap.get? x=some ⟨.ref C,some dx,.plain,#[]⟩:=I.obj
 refine wpAny_bind (wpAny_pure (wpAny_bind (wpAny_bind (wpAny_loadPart hx (wpAny_bind (PySem.W.Looks.here (s:={s with toks:=s.toks+1}) (PySem.W.looks_clsIn X hc) ?_))))))
 rw[hd']
 refine wpAny_pure (a:=some dx) (wpAny_bind (wpAny_pure (wpAny_bind ?_)))
 refine wpAny_nsSet1 (s:={s with toks:=s.toks+1}) I.ns λh' hn2 hs2=>?_
 obtain⟨oD,esD,epD,hoD,hdD,hcD⟩:=hn2.count (PySem.Within.cons name v hw)
 refine wpAny_bind (wpAny_lookBehind hoD (by rw[hdD];exact pastItsLine_dict (Nat.le_trans hcD (by rw[List.length_cons];omega))) ?_)
 exact wpAny_pure (h _ ⟨(hs2.2 _ (Ne.symm I.ne)).trans I.obj,hn2,I.ne⟩ hs2)
theorem zko {R:Result→Shared→Prop}{vs:List Value}{kw:List (Str × Value)}(X:K.In s.heap) (hm:PySem.W.makesIn K C=true)
  (hi:PySem.W.findIn K (.ref C) "__init__"=some (some (.ref f))) (hf:PySem.W.typeIn K (.ref f)=some (.type "function"))
  (h:codeAny (model prog w) (A.under (.builtin "type.__call__" ⟨.ref C::vs,kw⟩)) (.call (.ref f) ⟨.ref (s.heap.objs.size+1)::vs,kw⟩) (PySem.W.InitBack (s.heap.objs.size+1) R)
   {s with heap:=(s.heap.push PySem.W.emptyDict).push (PySem.W.instObj C s.heap.objs.size)}) :
  codeAny (model prog w) A (.call (.ref C) ⟨vs,kw⟩) R s:=by
 obtain⟨hh,g,d,t,os⟩:=s
 exact PySem.W.make_core (PySem.W.makes_of X hm) (PySem.W.looks_findIn X hi) (λself=>PySem.W.bind_fn X self hf) (.inl rfl) h
end

def putF (f:Str) (v:V):List (Str × V)→List (Str × V)
 | []=>[(f,v)]
 | (g,x)::r=>if g=f then (g,v)::r else (g,x)::putF f v r
theorem za2 (f g:Str) (v:V):∀ fs:List (Str × V),(putF f v fs).lookup g=if g=f then some v else fs.lookup g
 | []=>by
  show List.lookup g [(f,v)]=_
  by_cases h:g=f
  ·have hb:(g == f)=true:=beq_iff_eq.mpr h
   simp only[List.lookup,hb,if_pos h]
  ·have hb:(g == f)=false:=beq_eq_false_iff_ne.mpr h
   simp only[List.lookup,hb,if_neg h]
 | (k,x)::r=>by
  have ih:=za2 f g v r
  rw[show putF f v ((k,x)::r)=(if k=f then (k,v)::r else (k,x)::putF f v r) from rfl]
  by_cases hk:k=f
  ·rw[if_pos hk]
   by_cases h:g=k
   ·have hb:(g == k)=true:=beq_iff_eq.mpr h
    simp only[List.lookup,hb,if_pos (h.trans hk)]
   ·have hb:(g == k)=false:=beq_eq_false_iff_ne.mpr h
    simp only[List.lookup,hb,if_neg (λe:g=f=>h (e.trans hk.symm))]
  ·rw[if_neg hk]
   by_cases h:g=k
   ·have hb:(g == k)=true:=beq_iff_eq.mpr h
    simp only[List.lookup,hb,if_neg (λe:g=f=>hk (h.symm.trans e))]
   ·have hb:(g == k)=false:=beq_eq_false_iff_ne.mpr h
    simp only[List.lookup,hb]
    exact ih
theorem zey (f:Str) (v:V):∀ fs:List (Str × V),f∈(putF f v fs).map (·.1)∧∀ g,g∈fs.map (·.1)→g∈(putF f v fs).map (·.1)
 | []=>⟨by simp[putF],λg h=>by simp at h⟩
 | (k,x)::r=>by
  obtain⟨i1,i2⟩:=zey f v r
  rw[show putF f v ((k,x)::r)=(if k=f then (k,v)::r else (k,x)::putF f v r) from rfl]
  by_cases hk:k=f
  ·rw[if_pos hk]
   subst hk
   exact⟨by simp,λg h=>by simpa using h⟩
  ·rw[if_neg hk]
   refine⟨?_,λg h=>?_⟩
   ·rw[zmc]
    exact List.mem_cons_of_mem _ i1
   ·rw[zmc] at h ⊢
    rcases List.mem_cons.mp h with e | e
    ·exact List.mem_cons.mpr (.inl e)
    ·exact List.mem_cons_of_mem _ (i2 g e)
theorem zdx (f:Str) (v:V):∀ fs:List (Str × V),(putF f v fs).length≤fs.length+1
 | []=>by simp[putF]
 | (k,x)::r=>by
  have ih:=zdx f v r
  rw[show putF f v ((k,x)::r)=(if k=f then (k,v)::r else (k,x)::putF f v r) from rfl]
  by_cases hk:k=f
  ·rw[if_pos hk,List.length_cons,List.length_cons];omega
  ·rw[if_neg hk,List.length_cons,List.length_cons];omega
theorem RelO.some_of {v:V}{o:Option Value}(r:RelO (some v) o):∃ u,o=some u∧RelV v u:=by
 cases o with
 | none=>exact (show False from r).elim
 | some u=>exact⟨u,rfl,r⟩
theorem zjf {v:V}{u:Value}(r:RelV v u):PySem.W.handedIn u=true:=by
 cases v with
 | non=>cases (show u=Value.none from r);rfl
 | bl b=>cases (show u=Value.bool b from r);rfl
 | int i=>obtain⟨t,e⟩:=(show ∃ t,u=Value.int i t from r);cases e;rfl
 | str x=>obtain⟨t,e⟩:=(show ∃ t,u=Value.str x t from r);cases e;rfl
 | byt b=>obtain⟨t,e⟩:=(show ∃ t,u=Value.bytes b t from r);cases e;rfl
 | flt b=>obtain⟨t,e⟩:=(show ∃ t,u=Value.float b t from r);cases e;rfl
 | ref a=>cases (show u=Value.ref a from r);rfl
 | ty n=>cases (show u=Value.type n from r);rfl
section
variable {P : Program} {w : World} {H H' : Hp} {h h' : Heap} {a C dx : Addr} {fs fs' : List (Str × V)}
theorem zg9 (hok:HOk P w H h) (e:H a=some (.ins C dx fs)):∃ mA,ObjM h a dx C mA∧(∀ f,RelO (fs.lookup f) (mA f))∧PySem.Within mA (fs.map (·.1))∧fs.length≤1000∧H dx=some (.own a):=by
 obtain⟨d,z,ne,ob,mA,n,r,q⟩:=(show zbL P w H h a (.ins C dx fs) from hok a _ e)
 exact⟨mA,⟨ob,n,ne⟩,r,q,z,d⟩
end

structure Cls (K:Fg) (C:Addr):Prop where
 pg:PySem.W.plainGet K C Str.empty=true
 hd:PySem.W.hasDictIn K C=true
 po:PySem.W.plainOver K C=true
 sa:PySem.W.findIn K (.ref C) "__setattr__"=some (some (.builtin "object.__setattr__"))
theorem Cls.get {K:Fg}{C:Addr}(c:Cls K C) (f:Str):PySem.W.plainGet K C f=true:=c.pg
def zcL (K:Fg) (C:Addr) (f:Str):Prop:=PySem.W.findIn K (.ref C) f=some none
theorem zcL.taker {K:Fg}{C:Addr}{f:Str}(n:zcL K C f):PySem.W.takerIn K C f=some none:=by
 unfold PySem.W.takerIn
 rw[show PySem.W.findIn K (.ref C) f=some none from n]
 rfl
section
variable {X : Cx} {pins : List (Addr × Obj)} {σ : St} {H : Hp} {s : Shared} {a C dx : Addr} {fs : List (Str × V)} {f : Str} {v : V} {A : Around} {E : Value → Shared → Prop}

theorem zid {b:Bool}{Q:Value→Shared→Prop}(I:Inv X pins σ H s) (e:H a=some (.ins C dx fs)) (c:Cls X.K C) (n:zcL X.K C f) (l:fs.lookup f=some v)
  (h:∀ u s',Inv X pins σ H s'→RelV v u→Q u s'):wpAny (model X.prog X.w) A (getAttr (.ref a) f b) Q E s:=by
 obtain⟨mA,O,r,_,_,_⟩:=zg9 I.hok e
 obtain⟨u,hu,ru⟩:=RelO.some_of (v:=v) (o:=mA f) (by rw[←l];exact r f)
 exact zlF I.kIn O (c.get f) c.hd n hu (zjf ru) (h u _ (I.tok _) ru)
theorem zie {y:V}{u:Value}{Q:Unit→Shared→Prop}(I:Inv X pins σ H s) (e:H a=some (.ins C dx fs)) (c:Cls X.K C) (n:zcL X.K C f) (hl:fs.length<1000) (ry:RelV y u)
  (h:∀ s',Inv X pins σ (upd H a (.ins C dx (putF f y fs))) s'→Q () s'):wpAny (model X.prog X.w) A (setAttr (.ref a) f u) Q E s:=by
 obtain⟨mA,O,r,wi,_,ho⟩:=zg9 I.hok e
 have hz:(fs.map (·.1)).length≤sizeLine:=by rw[zlm,sizeLine_eq];omega
 refine zlG I.kIn O c.sa c.po n.taker c.hd wi hz λh' O' sb=>h _ ?_
 have hd:∃ o,h'.get? dx=some o:=let ⟨o,_,_,e',_⟩:=O'.ns;⟨o,e'⟩
 refine I.write (x:=a) (e:=dx) (by rw[e];exact True.intro) (.inr ho) (λb q hb z=>(sb.2 b hb).trans z) hd ?_
 refine⟨by rw[zaw O.ne];exact ho,?_,O.ne,O'.obj,_,O'.ns,λg=>?_,λg hg=>?_⟩
 ·have:=zdx f y fs;omega
 ·show RelO ((putF f y fs).lookup g) (if g=f then some u else mA g)
  rw[za2]
  by_cases q:g=f
  ·rw[if_pos q,if_pos q];exact ry
  ·rw[if_neg q,if_neg q];exact r g
 ·by_cases q:g=f
  ·rw[q];exact (zey f y fs).1
  ·refine (zey f y fs).2 g (wi g λz=>hg ?_)
   show (if g=f then some u else mA g)=none
   rw[if_neg q];exact z
theorem Inv.made (I:Inv X pins σ H s):Inv X pins σ (upd (upd H s.heap.objs.size (.own (s.heap.objs.size+1))) (s.heap.objs.size+1) (.ins C s.heap.objs.size []))
  {s with heap:=(s.heap.push PySem.W.emptyDict).push (PySem.W.instObj C s.heap.objs.size)}:=by
 have e1:(s.heap.push PySem.W.emptyDict).get? s.heap.objs.size=some PySem.W.emptyDict:=Heap.get?_push_size s.heap rfl
 have e2:((s.heap.push PySem.W.emptyDict).push (PySem.W.instObj C s.heap.objs.size)).get? (s.heap.objs.size+1)=some (PySem.W.instObj C s.heap.objs.size):=by
  have:=Heap.get?_push_size (s.heap.push PySem.W.emptyDict) (o:=PySem.W.instObj C s.heap.objs.size) rfl
  rwa [Heap.size_push] at this
 have e3:(s.heap.push PySem.W.emptyDict).Ns s.heap.objs.size (λ_=>none):=⟨PySem.W.emptyDict,#[],_,e1,rfl,(λe he=>absurd he (by simp)),λ_=>rfl⟩
 have I1:=I.laid (a:=s.heap.objs.size) (o:=.own (s.heap.objs.size+1)) (h':=s.heap.push PySem.W.emptyDict) (t':=s.toks) (λb u q=>Heap.get?_push_of_some _ q) (Nat.le_refl _) ⟨_,e1⟩
 refine I1.laid (a:=s.heap.objs.size+1) (o:=.ins C s.heap.objs.size []) (t':=s.toks) (λb u q=>Heap.get?_push_of_some _ q) (Nat.le_of_eq (Heap.size_push _ _)) ?_
 have ne:s.heap.objs.size≠s.heap.objs.size+1:=Nat.ne_of_lt (Nat.lt_succ_self _)
 refine⟨by rw[zaw ne,zac],Nat.zero_le _,ne,e2,λ_=>none,(Heap.Ns1.of_empty e3).at λo q=>Heap.get?_push_of_some _ q,λ_=>True.intro,λy hy=>absurd rfl hy⟩
theorem zlH {prog:Program}{w:World}{env:Env}{e:Expr}{f:Str}{pos:Pos}{s:Shared}{Q:Value→Shared→Prop}(hb:attributeBase e f env (eval e env)=eval e env)
  (h:wpAny (model prog w) A (eval e env) (λo s₁=>wpAny (model prog w) A (getAttr o f true) Q E s₁) E s):wpAny (model prog w) A (eval (.Attribute e f pos) env) Q E s:=
 Attribute_any_ h (by rw[arm_eval_Attribute,hb])
end

def tFld (K:Fg) (ta:TE) (f:Str):TE:=λσ H Q=>ta σ H λx H1=>∃ a C dx fs v,x=.ref a∧H1 a=some (.ins C dx fs)∧Cls K C∧zcL K C f∧fs.lookup f=some v∧Q v H1
def sFld (K:Fg) (ta tv:TE) (f:Str):TS:=λD σ H=>tv σ H λy H1=>ta σ H1 λx H2=>∃ a C dx fs,x=.ref a∧H2 a=some (.ins C dx fs)∧Cls K C∧zcL K C f∧fs.length<1000∧
 D.nx σ (upd H2 a (.ins C dx (putF f y fs)))
section
variable {X : Cx} {o e value : Expr} {f : Str} {pos pos' tpos : Pos} {ta tv : TE}
theorem zmM (he:PE X e ta) (hb:attributeBase e f X.env (eval e X.env)=eval e X.env):PE X (.Attribute e f pos) (tFld X.K ta f):=by
 intro pins s σ H Q I h
 refine zlH hb (thn (he pins s σ H _ I h) λu s1 ⟨x,H1,I1,rx,a,C,dx,fs,v,ex,ea,c,n,l,q⟩=>?_)
 subst ex
 obtain rfl:u=Value.ref a:=rx
 exact zid I1 ea c n l λu' s2 I2 ru=>⟨v,H1,I2,ru,q⟩
theorem zhJ (ha:PE X o ta) (hv:PE X value tv) (hs:swapsWith value (some (.Attribute o f pos')) pos.line X.env=pure false):PS X (.Assign [.Attribute o f pos'] value pos) (sFld X.K ta tv f):=by
 intro pins s σ H D I h
 refine plainObj_wpAny_Assign_Attribute (thn (hv pins s σ H _ I h) λu s1 ⟨y,H1,I1,ry,q⟩=>thn (ha pins s1 σ H1 _ I1 q) λov s2 ⟨x,H2,I2,rx,a,C,dx,fs,ex,ea,c,n,l,q2⟩=>?_) hs
 subst ex
 obtain rfl:ov=Value.ref a:=rx
 exact zie I2 ea c n l ry λs3 I3=>⟨σ,_,I3,q2⟩
end

section
variable {X : Cx} {pins : List (Addr × Obj)} {σ : St} {H : Hp} {s : Shared} {A : Around} {E : Value → Shared → Prop} {Q : Value → Shared → Prop} {c : Value} {b : Bool}
inductive TyOf (K:Fg) (H:Hp):V→Value→Prop where
 | non:TyOf K H .non (.type "NoneType")
 | bl (x:Bool):TyOf K H (.bl x) (.type "bool")
 | int (i:Int):TyOf K H (.int i) (.type "int")
 | str (x:Str):TyOf K H (.str x) (.type "str")
 | flt (x:UInt64):TyOf K H (.flt x) (.type "float")
 | lst {a:Addr}{xs:List V}(e:H a=some (.lst xs)):TyOf K H (.ref a) (.type "list")
 | frz {a:Addr}{o:Obj}{xs:List V}(e:H a=some (.frz o (.lst xs))):TyOf K H (.ref a) (.type "list")
 | tup {a:Addr}{xs:List V}(e:H a=some (.tup xs)):TyOf K H (.ref a) (.type "tuple")
 | dK {a:Addr}{kvs:List (Key × V)}(e:H a=some (.dK kvs)):TyOf K H (.ref a) (.type "dict")
 | dT {a:Addr}{kvs:List (List Key × V)}(e:H a=some (.dT kvs)):TyOf K H (.ref a) (.type "dict")
 | ins {a C dx:Addr}{fs:List (Str × V)}(e:H a=some (.ins C dx fs)) (cl:Cls K C) (ha:PySem.W.findIn K (.ref C) "__class__"=some (some (.builtin "object.__class__")))
   (hn:PySem.W.specialIn K (.builtin "object.__class__") "__get__"=some (some (.builtin "getset_descriptor.__get__"))) (htk:PySem.W.takesIn K (.builtin "object.__class__")=some true)
   (hm:PySem.W.mroIn K C (.type "object")=some true):TyOf K H (.ref a) (.ref C)
theorem zjg {x:V}{u t:Value}(I:Inv X pins σ H s) (rx:RelV x u) (ty:TyOf X.K H x t) (e:PySem.W.kitOne X.K t c=some b) (h:∀ tk,Q (.bool b) {s with toks:=tk}) :
  wpAny (model X.prog X.w) A (call (.builtin "isinstance") [u,c]) Q E s:=by
 cases ty with
 | non=>cases (show u=Value.none from rx);exact PySem.W.kia_one PySem.W.kitx_none I.kIn True.intro e (λz=>nomatch z) h
 | bl y=>cases (show u=Value.bool y from rx);exact PySem.W.kia_one PySem.W.kitx_bool I.kIn True.intro e (λz=>nomatch z) h
 | int i=>obtain⟨t,q⟩:=(show ∃ t,u=Value.int i t from rx);cases q;exact PySem.W.kia_one PySem.W.kitx_int I.kIn True.intro e (λz=>nomatch z) h
 | str y=>obtain⟨t,q⟩:=(show ∃ t,u=Value.str y t from rx);cases q;exact PySem.W.kia_one PySem.W.kitx_str I.kIn True.intro e (λz=>nomatch z) h
 | flt y=>obtain⟨t,q⟩:=(show ∃ t,u=Value.float y t from rx);cases q;exact PySem.W.kia_one PySem.W.kitx_float I.kIn True.intro e (λz=>nomatch z) h
 | @lst a xs ea=>
  cases (show u=Value.ref a from rx)
  obtain⟨_,_,n,_,h1⟩:=(show zbL X.prog X.w H s.heap a (.lst xs) from I.hok a _ ea)
  exact PySem.W.kia_one PySem.W.kitx_list I.kIn ⟨_,h1,rfl⟩ e (λz=>nomatch z) h
 | @frz a ob xs ea=>
  cases (show u=Value.ref a from rx)
  obtain⟨_,_,_,n,_,h1⟩:=(show zbL X.prog X.w H s.heap a (.frz ob (.lst xs)) from I.hok a _ ea)
  exact PySem.W.kia_one PySem.W.kitx_list I.kIn ⟨_,h1,rfl⟩ e (λz=>nomatch z) h
 | @tup a xs ea=>
  cases (show u=Value.ref a from rx)
  obtain⟨_,_,_,p⟩:=(show zbL X.prog X.w H s.heap a (.tup xs) from I.hok a _ ea)
  obtain⟨o,h1,h2,_⟩:=p
  exact PySem.W.kia_one PySem.W.kitx_tuple I.kIn ⟨o,h1,h2⟩ e (λz=>nomatch z) h
 | @dK a kvs ea=>
  cases (show u=Value.ref a from rx)
  obtain⟨_,_,vs,_,p⟩:=(show zbL X.prog X.w H s.heap a (.dK kvs) from I.hok a _ ea)
  obtain⟨o,es,ep,h1,h2,_⟩:=p
  exact PySem.W.kia_one PySem.W.kitx_dict I.kIn ⟨o,h1,h2.1⟩ e (λz=>nomatch z) h
 | @dT a kvs ea=>
  cases (show u=Value.ref a from rx)
  obtain⟨_,_,xs,_,o,es,ep,h1,h2,_⟩:=(show zbL X.prog X.w H s.heap a (.dT kvs) from I.hok a _ ea)
  exact PySem.W.kia_one PySem.W.kitx_dict I.kIn ⟨o,h1,h2.1⟩ e (λz=>nomatch z) h
 | @ins a C dx fs ea cl ha hn htk hm=>
  cases (show u=Value.ref a from rx)
  obtain⟨mA,O,_⟩:=zg9 I.hok ea
  obtain⟨od,J,_⟩:=O.look
  exact PySem.W.kia_one (PySem.W.kitx_own (cl.get _) cl.hd ha hn htk hm) I.kIn J e (λz=>nomatch z) h
end
end L2

namespace L2
open PySem PySem.Spec PyProof.Rows

structure Room (k:Nat) (A:Around):Prop where
 hd:A.handled=none
 dp:A.depth+3 * k+5<recursionLimit
 un:A.units+16 * k+200<cLine
 gd:A.guards=some []
theorem Room.mono {j k:Nat}{A:Around}(r:Room k A) (h:j≤k):Room j A:=⟨r.hd,by have:=r.dp;omega,by have:=r.un;omega,r.gd⟩
theorem Room.deeper {k:Nat}{A:Around}(r:Room (k+1) A) (env:Env):Room k (A.deeper env):=
 ⟨r.hd,by have:=r.dp;show A.depth+1+3 * k+5<_;omega,by have:=r.un;show A.units+3+16 * k+200<_;omega,r.gd⟩
theorem zif {A:Around}{C:Addr}{us:List Value}{kw:List (Str × Value)} : (A.under (.builtin "type.__call__" ⟨.ref C::us,kw⟩)).depth=A.depth+1:=by
 first | rfl | simp[Around.under,Code.weight,Code.isCreation,Code.isGuard,Code.isCaller,Code.frames,Code.isFrame,guardIds]
theorem zig {A:Around}{C:Addr}{us:List Value}{kw:List (Str × Value)} : (A.under (.builtin "type.__call__" ⟨.ref C::us,kw⟩)).units=A.units+1:=by
 first | rfl | simp[Around.under,Code.cUnits,Code.frames,Code.isFrame]
theorem zha {A:Around}{C:Addr}{us:List Value}{kw:List (Str × Value)}(h:A.guards=some []):(A.under (.builtin "type.__call__" ⟨.ref C::us,kw⟩)).guards=some []:=by
 simp[Around.under,Code.guards,Code.isGuard,guardIds,pushGuards,h]
theorem Room.make {k:Nat}{A:Around}(r:Room (k+1) A) (C:Addr) (us:List Value) (kw:List (Str × Value)):Room k (A.under (.builtin "type.__call__" ⟨.ref C::us,kw⟩)):=
 ⟨r.hd,by have:=r.dp;rw[zif];omega,by have:=r.un;rw[zig];omega,zha r.gd⟩
theorem Room.depth {k:Nat}{A:Around}(r:Room k A):A.depth<recursionLimit:=by have:=r.dp;omega
theorem Room.units {k:Nat}{A:Around}(r:Room k A):A.units+64<cLine:=by have:=r.un;omega
def tNil:TA:=λ_ H Q=>Q [] H
def zdy (ta:TE) (tr:TA):TA:=λσ H Q=>ta σ H λx H1=>tr σ H1 λxs H2=>Q (x::xs) H2
section
variable {X : Cx} {e : Expr} {es : List Expr} {te : TE} {t : TA} {pos : Pos}
theorem zaa:PA X [] tNil:=λ_ _ _ _ H Q I h=>Calls.spliced_nil ⟨[],H,I,.nil,h⟩
theorem zbq (ha:PE X e te) (hr:PA X es t) (hs:starEach (e::es) X.env=(false,eval e X.env)::starEach es X.env:=by rfl):PA X (e::es) (zdy te t):=by
 intro pos pins s σ H Q I h
 rw[hs]
 show wpAny _ _ (spliced ((false,eval e X.env)::backTo pos (starEach es X.env))) _ _ s
 refine Calls.spliced_cons (thn (ha pins s σ H _ I h) λu s1 ⟨x,H1,I1,r1,q1⟩=>?_)
 exact thn (hr pos pins s1 σ H1 _ I1 q1) λus s2 ⟨xs,H2,I2,r2,q2⟩=>⟨x::xs,H2,I2,.cons r1 r2,q2⟩
def tTup (t:TA):TE:=λσ H Q=>t σ H λxs H1=>xs.length≤sizeLine∧∀ p,H1 p=none→Q (.ref p) (upd H1 p (.tup xs))
def tLst (t:TA):TE:=λσ H Q=>t σ H λxs H1=>xs.length≤sizeLine∧∀ p,H1 p=none→Q (.ref p) (upd H1 p (.lst xs))
theorem zbg {x1}(h:PA X es t):PE X (.Tuple es x1 pos) (tTup t):=by
 intro pins s σ H Q I hq
 refine wpAny_Tuple_spliced (thn (h pos pins s σ H _ I hq) λus s1 ⟨xs,H1,I1,r,z,q⟩=>⟨by rw[←r.length];exact z,?_⟩)
 have hf:H1 s1.heap.objs.size=none:=I1.hok.fresh (Nat.le_refl _)
 refine⟨.ref s1.heap.objs.size,upd H1 s1.heap.objs.size (.tup xs),I1.laid (t':=s1.toks) (λb u e=>Heap.get?_push_of_some _ e) (Nat.le_refl _) ?_,rfl,q _ hf⟩
 exact⟨z,us,r,⟨_,Heap.get?_push_size _ rfl,rfl,_,rfl⟩⟩
theorem zaH (h:PA X es t):PE X (.List es pos) (tLst t):=by
 intro pins s σ H Q I hq
 refine wpAny_List_spliced (thn (h pos pins s σ H _ I hq) λus s1 ⟨xs,H1,I1,r,z,q⟩=>⟨by rw[←r.length];exact z,?_⟩)
 have hf:H1 s1.heap.objs.size=none:=I1.hok.fresh (Nat.le_refl _)
 refine⟨.ref s1.heap.objs.size,upd H1 s1.heap.objs.size (.lst xs),I1.laid (t':=s1.toks) (λb u e=>Heap.get?_push_of_some _ e) (Nat.le_refl _) ?_,rfl,q _ hf⟩
 exact⟨z,us,0,r,Heap.get?_push_size _ rfl⟩
end

abbrev Sp:=List V→Hp→VK→XK→Prop
abbrev CXT:=List Env→Hp→Shared→XK→Value→Shared→Prop
structure Env0 (P:Program) (w:World) (K:Fg) (mg:Str→Option Value) (base:Heap) (A:Around) (outer:List Env) (s:Shared) (H:Hp):Prop where
 frames:A.frames=some outer
 mod:Mod K mg base
 bs:∀ b o,base.get? b=some o→s.heap.get? b=some o∧H b=none
 bsz:base.objs.size≤s.heap.objs.size
 funs:s.heap.FunFrames base outer
 frf:∀ b∈frs outer,H b=none
 hok:HOk P w H s.heap
 bare:AllBare s.gens
def CE (outer:List Env) (P:Program) (w:World) (H:Hp) (s:Shared) (Q:VK) (u:Value) (s':Shared):Prop:=
 ∃ v H',s'.os=s.os∧AllBare s'.gens∧Un (frs outer) [] H H' s.heap s'.heap∧HOk P w H' s'.heap∧RelV v u∧Q v H'
def CR (CX:CXT) (outer:List Env) (P:Program) (w:World) (H:Hp) (s:Shared) (Q:VK) (E:XK) (r:Result) (s':Shared):Prop:=
 match r with
 | .ok (.ret u)=>CE outer P w H s Q u s'
 | .ok _=>False
 | .error e=>CX outer H s E e s'
structure FnOk (P:Program) (w:World) (K:Fg) (mg:Str→Option Value) (base:Heap) (CX:CXT) (k:Nat) (f:Addr) (fd:FuncData) (ps:List Str) (sp:Sp):Prop where
 len:∀ vs H Q E,sp vs H Q E→vs.length=ps.length
 run:∀ (A:Around) (outer:List Env) (s:Shared) (H:Hp) (args:Args) (us:List Value) (vs:List V) (Q:VK) (E:XK),Room k A→Env0 P w K mg base A outer s H→BindsTo s fd args (ps.zip us)→Vals vs us→sp vs H Q E→
  codeAny (model P w) A (.call (.ref f) args) (CR CX outer P w H s Q E) s
theorem FnOk.mono {P:Program}{w:World}{K:Fg}{mg:Str→Option Value}{base:Heap}{CX:CXT}{j k:Nat}{f:Addr}{fd:FuncData}{ps:List Str}{sp:Sp}(F:FnOk P w K mg base CX j f fd ps sp) (h:j≤k) :
  FnOk P w K mg base CX k f fd ps sp:=⟨F.len,λA outer s H args us vs Q E hr=>F.run A outer s H args us vs Q E (hr.mono h)⟩
theorem Env0.make {P:Program}{w:World}{K:Fg}{mg:Str→Option Value}{base:Heap}{A:Around}{outer:List Env}{s:Shared}{H:Hp}(e:Env0 P w K mg base A outer s H) (C:Addr) (us:List Value) (kw:List (Str × Value)) :
  Env0 P w K mg base (A.under (.builtin "type.__call__" ⟨.ref C::us,kw⟩)) outer s H:=⟨by first | exact e.frames | (simpa [Around.under,Code.envs,Code.isFrame,pushEnvs] using e.frames),e.mod,e.bs,e.bsz,e.funs,e.frf,e.hok,e.bare⟩
section
variable {X : Cx} {pins : List (Addr × Obj)} {σ : St} {H : Hp} {s s' : Shared}
theorem Inv.env0 (I:Inv X pins σ H s):Env0 X.prog X.w X.K X.mg X.base X.A X.stack s H:=
 ⟨I.ok.frames,I.ok.mod,I.bs,Nat.le_trans I.ok.bsz I.sz,I.stack,I.stkFree,I.hok,I.bare⟩
theorem Inv.after {Q:VK}{u:Value}(I:Inv X pins σ H s) (h:CE X.stack X.prog X.w H s Q u s'):EP X pins σ Q u s':=by
 obtain⟨v,H',os,bare,un,hok,r,q⟩:=h
 obtain⟨hh,g,d,t,os'⟩:=s'
 obtain rfl:os'=s.os:=os
 exact⟨v,H',I.call (h':=hh) (g':=g) (d':=d) (t':=t) (ch:=[]) un hok bare (λb z=>absurd z (by simp)),r,q⟩
end

def zih (sp:Sp) (dvs:List V) (E:XK) (t:TA):TE:=λσ H Q=>t σ H λvs H1=>sp (vs++dvs) H1 Q E
def zlI (C:Addr) (sp:Sp) (dvs:List V) (E:XK) (t:TA):TE:=λσ H Q=>t σ H λvs H1=>∀ x dx,H1 x=none→H1 dx=none→dx≠x→
 sp (.ref x::(vs++dvs)) (upd (upd H1 dx (.own x)) x (.ins C dx [])) (λv H2=>v=.non∧Q (.ref x) H2) E
def zez (K:Fg) (fd:FuncData) (ps:List Str) (ds:List Value):Prop:=
 ∀ (s:Shared) (us:List Value),K.In s.heap→(us++ds).length=ps.length→BindsTo s fd ⟨us,[]⟩ (ps.zip (us++ds))
theorem zez.all {K:Fg}{fd:FuncData}{ps:List Str}(h:∀ us:List Value,us.length=ps.length→bindArgs fd ⟨us,[]⟩=pure (ps.zip us)):zez K fd ps []:=λs us _ hl=>by
 rw[List.append_nil] at hl ⊢
 exact .of_eq (h us hl)
def zeA (CX:CXT) (X:Cx) (E:XK):Prop:=∀ (pins:List (Addr × Obj)) (σ:St) (H:Hp) (s:Shared) (e:Value) (s':Shared),Inv X pins σ H s→CX X.stack H s E e s'→X.xe e s'
section
variable {X : Cx} {CX : CXT} {k : Nat} {f C : Addr} {fd : FuncData} {ps : List Str} {sp : Sp} {dvs : List V} {ds : List Value} {E : XK} {x m : Str} {p pos apos : Pos} {e o : Expr} {es : List Expr} {ta : TE} {t : TA}

theorem zmN {pins:List (Addr × Obj)}{σ:St}{H:Hp}{s:Shared}{Q:VK}{us:List Value}{vs:List V}(F:FnOk X.prog X.w X.K X.mg X.base CX k f fd ps sp) (hr:Room k X.A) (hb:zez X.K fd ps ds) (hd:Vals dvs ds) (hx:zeA CX X E)
  (I:Inv X pins σ H s) (r:Vals vs us) (h:sp (vs++dvs) H Q E):wpAny (model X.prog X.w) X.A (call (.ref f) us) (EP X pins σ Q) X.xe s:=by
 have r2:Vals (vs++dvs) (us++ds):=r.append hd
 have hl:(us++ds).length=ps.length:=by rw[←r2.length];exact F.len _ _ _ _ h
 refine wpAny_call (codeAny_mono (F.run X.A X.stack s H ⟨us,[]⟩ (us++ds) (vs++dvs) Q E hr I.env0 (hb s us I.kIn hl) r2 h) λr s' hq=>?_)
 cases r with
 | error e=>exact hx pins σ H s e s' I hq
 | ok fl=>
  cases fl with
  | ret u=>exact I.after hq
  | next=>exact False.elim hq
  | brk=>exact False.elim hq
  | cont=>exact False.elim hq
theorem zjh (F:FnOk X.prog X.w X.K X.mg X.base CX k f fd ps sp) (hr:Room k X.A) (hg:Gl X x) (hm:X.mg x=some (.ref f)) (hk:PySem.W.keepIn X.K (.ref f)=true) (hb:zez X.K fd ps ds) (hd:Vals dvs ds) (hx:zeA CX X E)
  (ha:PA X (e::es) t) (hdb:(x == ("__debug__" : Str))=false:=by decide) (he:starEach (e::es) X.env=(false,eval e X.env)::starEach es X.env:=by rfl) (hpl:(backTo pos (starEach es X.env)).any (·.1)=false:=by rfl) :
  PE X (.Call (.Name x p) (e::es) [] pos) (zih sp dvs E t):=by
 intro pins s σ H Q I h
 refine wpAny_Call_Name_kw (zd1 I hg hm ?_ hdb)
 refine PySem.W.callWith_K (h₀:=X.base) I.ok.mod.kin hk (thn (ha pos pins s σ H _ I h) λus s1 ⟨vs,H1,I1,r,q⟩=>⟨I1.kIn,?_⟩) he hpl
 exact zmN F hr hb hd hx I1 r q
structure Mk (K:Fg) (C f:Addr):Prop where
 makes:PySem.W.makesIn K C=true
 init:PySem.W.findIn K (.ref C) "__init__"=some (some (.ref f))
 fn:PySem.W.isFn K (.ref f)=true
 kp:PySem.W.keepIn K (.ref C)=true
theorem zkp {pins:List (Addr × Obj)}{σ:St}{H:Hp}{s:Shared}{Q:VK}{us:List Value}{vs:List V}(M:Mk X.K C f) (F:FnOk X.prog X.w X.K X.mg X.base CX k f fd ps sp) (hr:Room (k+1) X.A) (hb:zez X.K fd ps ds) (hd:Vals dvs ds)
  (hx:zeA CX X E) (I:Inv X pins σ H s) (r:Vals vs us)
  (h:∀ x dx,H x=none→H dx=none→dx≠x→sp (.ref x::(vs++dvs)) (upd (upd H dx (.own x)) x (.ins C dx [])) (λv H2=>v=.non∧Q (.ref x) H2) E) :
  wpAny (model X.prog X.w) X.A (call (.ref C) us) (EP X pins σ Q) X.xe s:=by
 have hq:=h (s.heap.objs.size+1) s.heap.objs.size (I.hok.fresh (Nat.le_succ _)) (I.hok.fresh (Nat.le_refl _)) (Nat.ne_of_lt (Nat.lt_succ_self _))
 have I2:=Inv.made (C:=C) I
 have r2:Vals (V.ref (s.heap.objs.size+1)::(vs++dvs)) (Value.ref (s.heap.objs.size+1)::(us++ds)):=.cons rfl (r.append hd)
 have hl:(Value.ref (s.heap.objs.size+1)::us++ds).length=ps.length:=by
  have e:=r2.length
  rw[F.len _ _ _ _ hq] at e
  exact e.symm
 refine wpAny_call (zko (f:=f) I.kIn M.makes M.init (beq_iff_eq.mp M.fn) (codeAny_mono (F.run _ X.stack _ _ ⟨Value.ref (s.heap.objs.size+1)::us,[]⟩ (Value.ref (s.heap.objs.size+1)::(us++ds)) _ _ E (hr.make C us [])
  (I2.env0.make C us []) (hb _ (Value.ref (s.heap.objs.size+1)::us) I2.kIn hl) r2 hq) λr s' hq'=>?_))
 cases r with
 | error e=>exact hx pins σ _ _ e s' I2 hq'
 | ok fl=>
  cases fl with
  | ret u=>
   obtain⟨v,H',I3,rv,ev,q3⟩:=I2.after hq'
   subst ev
   exact⟨rv,⟨V.ref (s.heap.objs.size+1),H',I3,rfl,q3⟩⟩
  | next=>exact False.elim hq'
  | brk=>exact False.elim hq'
  | cont=>exact False.elim hq'
theorem zlJ (M:Mk X.K C f) (F:FnOk X.prog X.w X.K X.mg X.base CX k f fd ps sp) (hr:Room (k+1) X.A) (hg:Gl X x) (hm:X.mg x=some (.ref C)) (hb:zez X.K fd ps ds) (hd:Vals dvs ds) (hx:zeA CX X E)
  (ha:PA X (e::es) t) (hdb:(x == ("__debug__" : Str))=false:=by decide) (he:starEach (e::es) X.env=(false,eval e X.env)::starEach es X.env:=by rfl) (hpl:(backTo pos (starEach es X.env)).any (·.1)=false:=by rfl) :
  PE X (.Call (.Name x p) (e::es) [] pos) (zlI C sp dvs E t):=by
 intro pins s σ H Q I h
 refine wpAny_Call_Name_kw (zd1 I hg hm ?_ hdb)
 refine PySem.W.callWith_K (h₀:=X.base) I.ok.mod.kin M.kp (thn (ha pos pins s σ H _ I h) λus s1 ⟨vs,H1,I1,r,q⟩=>⟨I1.kIn,?_⟩) he hpl
 exact zkp M F hr hb hd hx I1 r q
end

section
variable {X : Cx} {CX : CXT} {k : Nat} {f C : Addr} {fd : FuncData} {ps ks : List Str} {sp : Sp} {E : XK} {x m : Str} {p pos apos kpos : Pos} {e o : Expr} {es : List Expr} {kws : List Keyword} {te ta : TE} {t tk : TA} {nm : Option Str}
variable {g : List Value → List Value → List Value} {gV : List V → List V → List V}
end

structure FnScope (N P:List Str) (sc:Scope):Prop where
 kind:sc.kind=.function
 co:sc.isCoroutine=false
 gen:sc.isGenerator=false
 nd:N.Nodup
 pre:N.take P.length=P
 par:∀ x∈P,sc.names.lookup x=some .local∨sc.names.lookup x=some .cell
 nofree:∀ y∈sc.names,y.2≠.free
theorem zf9 {kindOf:Str→Option NameKind}{x:Str} : ∀ {binds:List (Str × Value)}{m:Str→Option Value},(∀ v,(x,v)∉binds)→bindL kindOf binds m x=m x
 | [],_,_=>rfl
 | (n,v)::r,m,h=>by
  unfold bindL
  rw[zf9 λw hw=>h w (List.mem_cons_of_mem _ hw)]
  split
  ·have:x≠n:=by rintro rfl;exact h v List.mem_cons_self
   simp[this]
  ·rfl
theorem zga {kindOf:Str→Option NameKind}{x:Str} : ∀ {binds:List (Str × Value)}{m:Str→Option Value},(∀ v,(x,v)∉binds)→bindC kindOf binds m x=m x
 | [],_,_=>rfl
 | (n,v)::r,m,h=>by
  unfold bindC
  rw[zga λw hw=>h w (List.mem_cons_of_mem _ hw)]
  split
  ·rfl
  ·have:x≠n:=by rintro rfl;exact h v List.mem_cons_self
   simp[this]
theorem zgb {kindOf:Str→Option NameKind}{x:Str}{v:Value} : ∀ {P:List Str}{vs:List Value}{i:Nat}{m:Str→Option Value},P.Nodup→P[i]?=some x→vs[i]?=some v→kindOf x=some .local→
  bindL kindOf (P.zip vs) m x=some v
 | [],_,_,_,_,h,_,_=>by simp at h
 | _::_,[],_,_,_,_,h,_=>by simp at h
 | p::P,w::vs,0,m,nd,h1,h2,hk=>by
  simp at h1 h2;subst h1;subst h2
  show bindL kindOf ((p,w)::P.zip vs) m p=_
  unfold bindL
  rw[zf9 λv hv=>(List.nodup_cons.mp nd).1 (List.of_mem_zip hv).1,if_pos hk]
  simp
 | p::P,w::vs,i+1,m,nd,h1,h2,hk=>by
  show bindL kindOf ((p,w)::P.zip vs) m x=_
  unfold bindL
  exact zgb (i:=i) (List.nodup_cons.mp nd).2 (by simpa using h1) (by simpa using h2) hk
theorem zgc {kindOf:Str→Option NameKind}{x:Str}{v:Value} : ∀ {P:List Str}{vs:List Value}{i:Nat}{m:Str→Option Value},P.Nodup→P[i]?=some x→vs[i]?=some v→kindOf x≠some .local→
  bindC kindOf (P.zip vs) m x=some v
 | [],_,_,_,_,h,_,_=>by simp at h
 | _::_,[],_,_,_,_,h,_=>by simp at h
 | p::P,w::vs,0,m,nd,h1,h2,hk=>by
  simp at h1 h2;subst h1;subst h2
  show bindC kindOf ((p,w)::P.zip vs) m p=_
  unfold bindC
  rw[zga λv hv=>(List.nodup_cons.mp nd).1 (List.of_mem_zip hv).1,if_neg hk]
  simp
 | p::P,w::vs,i+1,m,nd,h1,h2,hk=>by
  show bindC kindOf ((p,w)::P.zip vs) m x=_
  unfold bindC
  exact zgc (i:=i) (List.nodup_cons.mp nd).2 (by simpa using h1) (by simpa using h2) hk
def start (N:List Str) (vs:List V):St:=vs.map some++List.replicate (N.length - vs.length) none
def cxOf (CX:CXT) (P:Program) (w:World) (K:Fg) (mg:Str→Option Value) (base:Heap) (N:List Str) (qual:Str) (scope:Scope) (f:Addr) (cd:Value) (A:Around) (outer:List Env) (s:Shared) (H:Hp) (E:XK):Cx where
 prog:=P
 w:=w
 K:=K
 mg:=mg
 base:=base
 A:=A.deeper (envOfC qual scope s.heap.objs.size f cd)
 N:=N
 s₀:=s
 H₀:=H
 env:=envOfC qual scope s.heap.objs.size f cd
 outer:=outer
 stack:=envOfC qual scope s.heap.objs.size f cd::outer
 ex:=[]
 calm:=true
 fn:=λ_=>true
 pn:=[]
 xe:=λe s'=>wpAny (model P w) (A.deeper (envOfC qual scope s.heap.objs.size f cd)) (leaving (envOfC qual scope s.heap.objs.size f cd) e) (λ_ s''=>CX outer H s E e s'') (λe' s''=>CX outer H s E e' s'') s'
theorem zhK {sc:Scope}{n:Nat}{x:Str}(h:sc.names.lookup x=some .cell):∃ c,(cellsFrom n sc.names []).lookup x=some c:=by
 have q:=PySem.W.cellsFrom_some sc.names n [] (.inl h)
 exact Option.isSome_iff_exists.mp q
theorem zji {CX:CXT}{P:Program}{w:World}{K:Fg}{mg:Str→Option Value}{base:Heap}{N ps:List Str}{qual:Str}{scope:Scope}{f:Addr}{cd:Value}{A:Around}{outer:List Env}{s s1:Shared}{H:Hp}{E:XK}{us:List Value}{vs:List V}
  (S:FnScope N ps scope) (hd:A.handled=none) (e0:Env0 P w K mg base A outer s H) (hl:vs.length=ps.length) (r:Vals vs us)
  (x:InCallC s s.heap.objs.size (bindL (envOfC qual scope s.heap.objs.size f cd).kindOf (ps.zip us) λ_=>none) (cellsFrom (s.heap.objs.size+1) scope.names []) (bindC (envOfC qual scope s.heap.objs.size f cd).kindOf (ps.zip us) λ_=>none) s1) :
  Inv (cxOf CX P w K mg base N qual scope f cd A outer s H E) [] (start N vs) H s1:=by
 have hpl:ps.length≤N.length:=by have:=congrArg List.length S.pre;rw[List.length_take] at this;omega
 obtain⟨h1,tk,rfl,hk⟩:=x.done
 have noA:∀ b:Addr,b∉(cxOf CX P w K mg base N qual scope f cd A outer s H E).ex:=λb z=>absurd (show b∈([]:List Addr) from z) (by simp)
 refine⟨⟨e0.mod,S.kind,rfl,rfl,Nat.le_refl _,λy z c h1 h2=>?_,λy hy=>?_,λy c _ h=>?_,λ_=>hd,Around.frames_deeper e0.frames,.inr ⟨rfl,rfl⟩,λb z=>absurd z (noA b),e0.bs,e0.bsz,λb _ _=>noA b,λb z=>absurd z (noA b),e0.funs,e0.frf⟩,
  rfl,e0.bare,Un.kept hk,⟨_,x.toInCall.ns,λi y v h1 h2 h3=>?_⟩,λy c h=>⟨_,x.cell y c h⟩,e0.hok.fresh (Nat.le_refl _),λy c h=>?_,λp hp=>absurd (show p∈([]:List (Addr × Obj)) from hp) (by simp),e0.hok.kept hk,?_⟩
 ·exact name_of_addr x.apart (PySem.mem_of_lookup h1) (PySem.mem_of_lookup h2)
 ·have hy:scope.names.lookup y=some .cell∨scope.names.lookup y=some .free:=hy
  rcases hy with hy | hy
  ·exact zhK hy
  ·exact absurd rfl (S.nofree _ (PySem.mem_of_lookup hy))
 ·exact Nat.le_of_lt (x.above y c (PySem.mem_of_lookup h))
 ·have hi:i<vs.length:=by
   unfold start at h2
   by_cases hi:i<vs.length
   ·exact hi
   ·rw[List.getElem?_append_right (by simpa using hi)] at h2
    rw[List.getElem?_replicate] at h2
    split at h2 <;> cases h2
  have ha:vs[i]?=some v:=by
   unfold start at h2
   rw[List.getElem?_append_left (by simpa using hi),zgm] at h2
   cases e:vs[i]? with
   | none=>rw[e] at h2;cases h2
   | some a=>rw[e] at h2;cases h2;rfl
  obtain⟨u,hu,rv⟩:=r.get ha
  have hp:ps[i]?=some y:=by
   rw[←S.pre,List.getElem?_take_of_lt (by omega)];exact h1
  have ndP:ps.Nodup:=by rw[←S.pre];exact S.nd.sublist (List.take_sublist _ _)
  refine⟨u,rv,?_⟩
  rcases S.par y (zmg hp) with k | k
  ·exact .inl ⟨k,zgb ndP hp hu k⟩
  ·obtain⟨c,e⟩:=zhK (n:=s.heap.objs.size+1) k
   refine .inr ⟨.inl k,c,e,?_⟩
   have q:=x.cell y c e
   rw[zgc ndP hp hu (by show scope.names.lookup y≠_;rw[k];decide)] at q
   exact q
 ·exact e0.hok.fresh (Nat.le_of_lt (x.above y c (PySem.mem_of_lookup h)))
 ·unfold start
  show _=N.length
  rw[List.length_append,zlm,List.length_replicate]
  omega
theorem zmO {CX:CXT}{P:Program}{w:World}{K:Fg}{mg:Str→Option Value}{base:Heap}{k:Nat}{f:Addr}{name qual:Str}{params:Arguments}{body:List Stmt}{scope:Scope}{dV kV doc pm cdv ct oc:Value}{an od:Option Addr}
  {osl:Array (Option Value)}{N ps:List Str}{sp:Sp}(lk:K.lookup f=some ⟨oc,od,.func (PySem.W.fnOf name qual params body scope dV kV doc pm an cdv ct),osl⟩) (hcd:PySem.W.codeIn K cdv qual=true) (S:FnScope N ps scope)
  (len:∀ vs H Q E,sp vs H Q E→vs.length=ps.length)
  (hbody:∀ (A:Around) (outer:List Env) (s:Shared) (H:Hp) (vs:List V) (Q:VK) (E:XK),Room k (A.deeper (envOfC qual scope s.heap.objs.size f cdv))→sp vs H Q E→
   ∃ t,PSs (cxOf CX P w K mg base N qual scope f cdv A outer s H E) body t∧t {nx:=λ_ H'=>Q .non H',rt:=Q} (start N vs) H) :
  FnOk P w K mg base CX (k+1) f (PySem.W.fnOf name qual params body scope dV kV doc pm an cdv ct) ps sp:=by
 refine⟨len,λA outer s H args us vs Q E hr e0 hb r hsp=>?_⟩
 have hl:=len _ _ _ _ hsp
 have KX:K.In s.heap:=e0.mod.kin.keeps λb o e=>(e0.bs b o e).1
 have lim:s.heap.NoLimit:=e0.mod.nolimit.keeps λb o e=>(e0.bs b o e).1
 have hkind:∀ y∈ps.zip us,scope.names.lookup y.1=some .local∨(scope.names.lookup y.1=some .cell∧((cellsFrom (s.heap.objs.size+1) scope.names []).lookup y.1).isSome=true):=λ⟨n,v⟩ hy=>by
  rcases S.par n (List.of_mem_zip hy).1 with q | q
  ·exact .inl q
  ·exact .inr ⟨q,PySem.W.cellsFrom_some _ _ _ (.inl q)⟩
 refine codeAny_call_function hr.depth (KX _ _ lk) rfl S.co S.gen rfl (PySem.W.codeRec_of KX hcd) (hb _ _ _ _ ?_)
 refine wpAny_newFunctionEnv_cells S.kind hkind λenv he s1 x=>?_
 subst he
 refine⟨lim.keeps x.toInCall.keep,codeAny_func ?_⟩
 obtain⟨t,ht,hq⟩:=hbody A outer s H vs Q E (hr.deeper _) hsp
 have I:Inv (cxOf CX P w K mg base N qual scope f cdv A outer s H E) [] (start N vs) H s1:=zji S hr.hd e0 hl r x
 refine wpAny_mono (ht [] s1 (start N vs) H _ I hq) (λfl s' hs=>?_) λe s' hs=>hs
 have fin:∀ {σ':St}{H':Hp}{v:V}{u:Value},Inv (cxOf CX P w K mg base N qual scope f cdv A outer s H E) [] σ' H' s'→RelV v u→Q v H'→CE outer P w H s Q u s':=
  λ{σ' H' v u} J rv q=>⟨v,H',J.os,J.bare,J.base,J.hok,rv,q⟩
 cases fl with
 | ret u=>
  obtain⟨v,σ',H',J,rv,q⟩:=hs
  exact fin J rv q
 | next=>
  obtain⟨σ',H',J,q⟩:=hs
  exact fin (v:=V.non) (u:=Value.none) J rfl q
 | brk=>
  obtain⟨_,_,_,q⟩:=hs
  exact False.elim q
 | cont=>
  obtain⟨_,_,_,q⟩:=hs
  exact False.elim q
end L2

namespace L2
open PySem PySem.Spec PyProof.Rows
section
variable {X : Cx} {x : Str} {p pos : Pos} {e : Expr} {es : List Expr} {t : TA} {id T : String} {r : List V → Hp → VK → Prop}

def tCB (r:List V→Hp→VK→Prop) (t:TA):TE:=λσ H Q=>t σ H λvs H1=>r vs H1 Q
theorem zaK (hc:zbZ X (.builtin id) r) (hg:Gl X x) (hm:X.mg x=none) (hv:bootBuiltins x=some (.builtin id)) (ha:PA X (e::es) t) (hn:x≠ "__name__":=by decide) (hdb:(x == ("__debug__" : Str))=false:=by decide)
  (he:starEach (e::es) X.env=(false,eval e X.env)::starEach es X.env:=by rfl) (hpl:(backTo pos (starEach es X.env)).any (·.1)=false:=by rfl):PE X (.Call (.Name x p) (e::es) [] pos) (tCB r t):=by
 intro pins s σ H Q I h
 refine wpAny_Call_Name_kw (zf4 I hg hm hv ?_ hn hdb)
 exact PyProof.Rows.callWith_builtin1 (thn (ha pos pins s σ H _ I h) λus s1 ⟨vs,H1,I1,r1,q1⟩=>hc pins s1 σ H1 vs us Q I1 r1 q1) he hpl
theorem zcR (hc:zbZ X (.type T) r) (hg:Gl X x) (hm:X.mg x=none) (hv:bootBuiltins x=some (.type T)) (ha:PA X (e::es) t) (hn:x≠ "__name__":=by decide) (hdb:(x == ("__debug__" : Str))=false:=by decide)
  (he:starEach (e::es) X.env=(false,eval e X.env)::starEach es X.env:=by rfl) (hpl:(backTo pos (starEach es X.env)).any (·.1)=false:=by rfl):PE X (.Call (.Name x p) (e::es) [] pos) (tCB r t):=by
 intro pins s σ H Q I h
 refine wpAny_Call_Name_kw (zf4 I hg hm hv ?_ hn hdb)
 exact PyProof.Rows.callWith_type1 (thn (ha pos pins s σ H _ I h) λus s1 ⟨vs,H1,I1,r1,q1⟩=>hc pins s1 σ H1 vs us Q I1 r1 q1) he hpl
end
end L2

namespace HT
open PySem PyProof.Rows

section
open PySem.SeqAt
open PySem.AutoSeq1 (wpAny_loadPart')
open PySem.MeetsSeq PySem.MeetsSeq2 PySem.MeetsSeq3

end

section
variable {prog : Program} {w : World} {A : Around} {E : Value → Shared → Prop} {s : Shared}

theorem cat_tup {t b:Addr}{vs ws:List Value}{Q:Value→Shared→Prop}(ht:IsTup s.heap t vs.toArray) (hb:IsTup s.heap b ws.toArray) (hv:vs≠[])
  (h1:ws=[]→Q (.ref t) s) (h2:ws≠[]→Q (.ref s.heap.objs.size) {s with heap:=s.heap.push {cls:=.type "tuple",data:=.seq (vs++ws).toArray}})
  (hsz:vs.length+ws.length≤sizeLine):wpAny (model prog w) A (binaryOp .Add (.ref t) (.ref b)) Q E s:=by
 obtain⟨⟨cls,dd,data,sl⟩,ho,hc,n,hd⟩:=id ht
 obtain⟨⟨cls2,dd2,data2,sl2⟩,ho2,hc2,n2,hd2⟩:=id hb
 simp only at hc hd hc2 hd2
 subst hc hd hc2 hd2
 have e:vs.toArray++ws.toArray=(vs++ws).toArray:=by simp
 by_cases hw:ws=[]
 ·exact concat_meets ⟨_,ho,rfl⟩ ⟨_,ho2,rfl⟩ noFill_tuple_add seq_tuple_add PySem.F.slot_tuple_add PySem.F.entry_tuple_add (PySem.F.args_tuple_add_2 _ _)
   (tuple_addW1 t b vs.toArray ws.toArray n n2 dd dd2 sl sl2 (by simpa using hv) (by simp[hw])) ⟨ho,ho2,h1 hw⟩
 ·refine concat_meets ⟨_,ho,rfl⟩ ⟨_,ho2,rfl⟩ noFill_tuple_add seq_tuple_add PySem.F.slot_tuple_add PySem.F.entry_tuple_add (PySem.F.args_tuple_add_2 _ _)
   (tuple_addW2 t b vs.toArray ws.toArray n n2 dd dd2 sl sl2 (by simpa using hv) (by simpa using hw) (by rw[zst,zst];exact hsz)) ⟨ho,ho2,?_⟩
  rw[e]
  exact h2 hw
def sIx (n d:Nat):Option Int→Nat
 | none=>d
 | some v=>if v<0 then (v+(n:Int)).toNat else min v.toNat n
theorem sIx_none (n d:Nat):sIx n d none=d:=rfl
theorem sIx_nat (n d k:Nat):sIx n d (some (k:Int))=min k n:=by
 show (if (k:Int)<0 then ((k:Int)+(n:Int)).toNat else min (k:Int).toNat n)=min k n
 rw[if_neg (by omega),Int.toNat_natCast]
theorem zmP (n d:Nat) (hd:d≤n) (o:Option Int):sIx n d o≤n:=by
 cases o with
 | none=>exact hd
 | some v=>
  show (if v<0 then (v+(n:Int)).toNat else min v.toNat n)≤n
  by_cases hv:v<0
  ·rw[if_pos hv];omega
  ·rw[if_neg hv];exact Nat.min_le_right _ _
theorem zjj (v:Int) (n d:Nat):(if v<0 then max (v+(n:Int)) 0 else min v (n:Int))=((sIx n d (some v):Nat):Int):=by
 show (if v<0 then max (v+(n:Int)) 0 else min v (n:Int))=(((if v<0 then (v+(n:Int)).toNat else min v.toNat n):Nat):Int)
 by_cases hv:v<0
 ·simp only[if_pos hv];omega
 ·simp only[if_neg hv];omega
theorem zii (lo hi:Option Int) (n:Nat):Builtin.Slice.sliceAdjust lo hi 1 (n:Int)=(((sIx n 0 lo:Nat):Int),((sIx n n hi:Nat):Int)):=by
 have h1:¬ ((1:Int)<0):=by omega
 unfold Builtin.Slice.sliceAdjust
 simp only[h1,if_false]
 refine Prod.ext ?_ ?_
 ·cases lo with
  | none=>rfl
  | some v=>exact zjj v n 0
 ·cases hi with
  | none=>rfl
  | some v=>exact zjj v n n
theorem zij (i j:Nat):Builtin.Slice.slicePlaces (i:Int) (j:Int) 1=j - i:=by
 unfold Builtin.Slice.slicePlaces
 have h1:(1:Int)>0:=by omega
 simp only[h1,if_true,Int.ediv_one]
 split <;> omega
theorem zfj {v:Value}{o:Option Int}{Q:Option Int→Shared→Prop}(p:IsPart v o) (h:Q o s):wpAny (model prog w) A (Builtin.Slice.slicePartIndex v) Q E s:=by
 cases p with
 | none=>exact slicePart_none h
 | int i t=>exact slicePart_int h
theorem zeo {sl:Addr}{vl vu:Value}{lo hi:Option Int}{n:Nat}{Q:Int × Int × Nat→Shared→Prop}(hs:s.heap.IsSliceOf sl vl vu .none) (pl:IsPart vl lo) (pu:IsPart vu hi)
  (h:Q (((sIx n 0 lo:Nat):Int),1,sIx n n hi - sIx n 0 lo) s):wpAny (model prog w) A (Builtin.Slice.sliceApplied (.ref sl) (pure (n:Int))) Q E s:=by
 obtain⟨os,hos,hcs,hds⟩:=id hs
 unfold Builtin.Slice.sliceApplied Builtin.Slice.sliceFields
 refine wpAny_bind (wpAny_bind (wpAny_field hos hds (x:=vl) rfl (wpAny_bind (wpAny_field hos hds (x:=vu) rfl (wpAny_bind (wpAny_field hos hds (x:=.none) rfl (wpAny_pure ?_)))))))
 refine wpAny_bind (slicePart_none ?_)
 show wpAny _ _ (if ((1:Int) == 0)=true then _ else _) _ _ s
 rw[if_neg (by decide)]
 refine wpAny_bind (zfj pl (wpAny_bind (zfj pu (wpAny_bind (wpAny_pure ?_)))))
 show wpAny _ _ (match Builtin.Slice.sliceAdjust lo hi 1 (n:Int) with | (lo,hi)=>pure (lo,(1:Int),Builtin.Slice.slicePlaces lo hi 1)) _ _ s
 rw[zii lo hi n]
 show wpAny _ _ (pure (((sIx n 0 lo:Nat):Int),(1:Int),Builtin.Slice.slicePlaces ((sIx n 0 lo:Nat):Int) ((sIx n n hi:Nat):Int) 1)) _ _ s
 rw[zij]
 exact wpAny_pure h
theorem zkq (xs:Array Value) (i k:Nat):((List.range k).filterMap λ(m:Nat)=>xs[((i:Int)+(m:Int) * 1).toNat]?).toArray=((xs.toList.drop i).take k).toArray:=by
 have e:(λ(m:Nat)=>xs[((i:Int)+(m:Int) * 1).toNat]?)=λm=>xs[i+m]?:=by
  funext m
  have:((i:Int)+(m:Int) * 1).toNat=i+m:=by omega
  rw[this]
 rw[e]
 have:=pick_run xs i k
 rw[List.filterMap_map] at this
 have e2:((λx=>xs[x]?) ∘ λx=>i+x)=λm=>xs[i+m]?:=rfl
 rw[e2] at this
 rw[this]
theorem getItem_tuple_cut {t sl:Addr}{items:Array Value}{vl vu:Value}{lo hi:Option Int}{Q:Value→Shared→Prop}(ht:IsTup s.heap t items) (hs:s.heap.IsSliceOf sl vl vu .none) (pl:IsPart vl lo) (pu:IsPart vu hi)
  (hw:¬ (sIx items.size 0 lo=0∧sIx items.size items.size hi=items.size))
  (h:Q (.ref s.heap.objs.size) {s with heap:=s.heap.push {cls:=.type "tuple",data:=.seq ((items.toList.drop (sIx items.size 0 lo)).take (sIx items.size items.size hi - sIx items.size 0 lo)).toArray}})
  (hsz:items.size≤sizeLine):wpAny (model prog w) A (getItem (.ref t) (.ref sl)) Q E s:=by
 have htake:sizeOk (.seq ((items.toList.drop (sIx items.size 0 lo)).take (sIx items.size items.size hi - sIx items.size 0 lo)).toArray):=by
  show ((items.toList.drop (sIx items.size 0 lo)).take (sIx items.size items.size hi - sIx items.size 0 lo)).toArray.size≤sizeLine
  rw[zst,List.length_take,List.length_drop,Array.length_toList]
  omega
 have hj:sIx items.size items.size hi≤items.size:=zmP _ _ (Nat.le_refl _) hi
 obtain⟨os,hos,hcs,hds⟩:=id hs
 have hTs:s.TypeIs (.ref sl) "slice":=⟨os,hos,hcs⟩
 unfold getItem
 try with_reducible refine wpAny_holding ?_
 first | refine wpAny_bind (wpAny_pure ?_) | skip
 refine wpAny_bind (wpAny_sequenceKey ht.typeIs (by decide) ?_)
 refine wpAny_bind (wpAny_callSpecial?_slot (name:=Str.ofString "__getitem__") ht.typeIs PyProof.Rows.slot_tuple_getitem
  (wpAny_call_entry PyProof.Rows.slot_tuple_getitem ht.typeIs entry_tuple_getitem ?_ (args_tuple_getitem _ _)))
 show wpAny _ _ (Builtin.Tuple.tupleItemsOf (.ref t) >>= _) _ _ s
 refine wpAny_bind (tupleItemsOf_ ht ?_)
 refine wpAny_bind (wpAny_typeOf hTs ?_)
 rw[if_pos (by decide)]
 refine wpAny_bind (zeo hs pl pu ?_)
 have hno:¬ ((((sIx items.size 0 lo:Nat):Int) == 0 && (1:Int) == 1 && (sIx items.size items.size hi - sIx items.size 0 lo) == items.size)=true):=by
  intro q
  rw[Bool.and_eq_true,Bool.and_eq_true] at q
  have q1:((sIx items.size 0 lo:Nat):Int)=0:=eq_of_beq q.1.1
  have q2:sIx items.size items.size hi - sIx items.size 0 lo=items.size:=eq_of_beq q.2
  exact hw ⟨by omega,by omega⟩
 show wpAny _ _ (if (((sIx items.size 0 lo:Nat):Int) == 0 && (1:Int) == 1 && (sIx items.size items.size hi - sIx items.size 0 lo) == items.size)=true then _ else _) _ _ s
 rw[if_neg hno,zkq]
 first
  | exact wpAny_bind (m:=Builtin.Tuple.tupleExact _) (wpAny_newObj_type (wpAny_pure ⟨_,rfl,wpAny_pure h⟩) htake)
  | exact wpAny_bind (m:=Builtin.Tuple.tupleExact _) (wpAny_newObj_type (wpAny_bind (wpAny_pure (wpAny_pure ⟨_,rfl,wpAny_pure h⟩))) htake)
  | exact wpAny_bind (wpAny_bind (m:=Builtin.Tuple.tupleExact _) (wpAny_newObj_type (wpAny_pure (wpAny_pure ⟨_,rfl,wpAny_pure h⟩)) htake))
  | exact wpAny_bind (wpAny_bind (m:=Builtin.Tuple.tupleExact _) (wpAny_newObj_type (wpAny_pure ⟨_,rfl,wpAny_pure h⟩) htake))
end
end HT

namespace L2
open PySem PySem.Spec PyProof.Rows

abbrev TO:=St→Hp→(Option Int→Hp→Prop)→Prop
def PO (X:Cx) (e:Option Expr) (t:TO):Prop:=
 ∀ (pins:List (Addr × Obj)) (s:Shared) (σ:St) (H:Hp) (Q:Option Int→Hp→Prop),Inv X pins σ H s→t σ H Q→
  wpAny (model X.prog X.w) X.A (evalPart e X.env) (λu s'=>∃ o H',Inv X pins σ H' s'∧IsPart u o∧Q o H') X.xe s
def zjk:TO:=λ_ H Q=>Q none H
def zmQ (t:TE):TO:=λσ H Q=>t σ H λx H1=>∃ i,x=.int i∧Q (some i) H1
theorem zik {ns:List Int} : ∀ {us:List Value},Vals (ns.map V.int) us→IntsAre us ns:=by
 induction ns with
 | nil=>intro us r;rw[List.map_nil] at r;cases r;exact .nil
 | cons n ns ih=>
  intro us r
  rw[zmc] at r
  cases r with
  | cons r1 r2=>
   obtain⟨t,e⟩:=r1
   subst e
   exact .cons n t (ih r2)
section
variable {X : Cx} {e : Expr} {te : TE} {lo hi : Option Expr} {tl th : TO} {pos p2 : Pos}

theorem zdz:PO X none zjk:=by
 intro pins s σ H Q I h
 rw[evalPart_none]
 exact wpAny_pure ⟨none,H,I,.none,h⟩
theorem zcA (h:PE X e te):PO X (some e) (zmQ te):=by
 intro pins s σ H Q I hw
 rw[evalPart_some]
 refine thn (h pins s σ H _ I hw) λu s1 ⟨x,H1,I1,r1,q1⟩=>?_
 obtain⟨i,rfl,q⟩:=q1
 obtain⟨t,rfl⟩:=r1
 exact⟨some i,H1,I1,.int i t,q⟩
def SlR (X:Cx) (r:V→Option Int→Option Int→Hp→VK→Prop):Prop:=
 ∀ (pins:List (Addr × Obj)) (s:Shared) (σ:St) (H:Hp) (x:V) (v vl vu:Value) (lo hi:Option Int) (sl:Addr) (Q:VK),Inv X pins σ H s→RelV x v→s.heap.IsSliceOf sl vl vu .none→IsPart vl lo→IsPart vu hi→r x lo hi H Q→
  ∃ T id,typeLookup (.type T) "__getitem__"=pure (some (.builtin id))∧s.TypeIs v T∧wpAny (model X.prog X.w) X.A (getItem v (.ref sl)) (EP X pins σ Q) X.xe s
theorem SlR.or {r r':V→Option Int→Option Int→Hp→VK→Prop}(h:SlR X r) (h':SlR X r'):SlR X (λx lo hi H Q=>r x lo hi H Q∨r' x lo hi H Q):=by
 intro pins s σ H x v vl vu lo hi sl Q I rx hs pl pu q
 rcases q with q | q
 ·exact h pins s σ H x v vl vu lo hi sl Q I rx hs pl pu q
 ·exact h' pins s σ H x v vl vu lo hi sl Q I rx hs pl pu q
def tSl (r:V→Option Int→Option Int→Hp→VK→Prop) (te:TE) (tl th:TO):TE:=λσ H Q=>te σ H λx H1=>tl σ H1 λl H2=>th σ H2 λu H3=>r x l u H3 Q
theorem zci {r:V→Option Int→Option Int→Hp→VK→Prop}(hr:SlR X r) (he:PE X e te) (hl:PO X lo tl) (hu:PO X hi th):PE X (.Subscript e (.Slice lo hi none p2) pos) (tSl r te tl th):=by
 intro pins s σ H Q I h
 refine Subscript_ (thn (he pins s σ H _ I h) λv s1 ⟨x,H1,I1,r1,q1⟩=>?_)
 refine wpAny_Slice (thn (hl pins s1 σ H1 _ I1 q1) λvl s2 ⟨l,H2,I2,pl,q2⟩=>thn (hu pins s2 σ H2 _ I2 q2) λvu s3 ⟨u,H3,I3,pu,q3⟩=>?_)
 rw[evalPart_none]
 refine wpAny_pure ?_
 have I4:Inv X pins σ H3 {s3 with heap:=s3.heap.push {cls:=.type "slice",data:=.fields #[vl,vu,.none]}}:=I3.kept (t':=s3.toks) λb ob q=>Heap.get?_push_of_some _ q
 obtain⟨T,id,hT,ht,hg⟩:=hr pins {s3 with heap:=s3.heap.push {cls:=.type "slice",data:=.fields #[vl,vu,.none]}} σ H3 x v vl vu l u s3.heap.objs.size Q I4 r1 (Heap.IsSliceOf.new ..) pl pu q3
 show wpAny (model X.prog X.w) X.A (subscriptTail e (.Slice lo hi none p2) v (.ref s3.heap.objs.size)) (EP X pins σ Q) X.xe {s3 with heap:=s3.heap.push {cls:=.type "slice",data:=.fields #[vl,vu,.none]}}
 exact tail_any (ops:=[.ref s3.heap.objs.size,v]) ht hT hg (by with_unfolding_all rfl)
def cutV (xs:List V) (lo hi:Option Int):List V:=(xs.drop (HT.sIx xs.length 0 lo)).take (HT.sIx xs.length xs.length hi - HT.sIx xs.length 0 lo)
theorem zeB (xs:List V) (lo hi:Option Int):(cutV xs lo hi).length≤xs.length:=by
 unfold cutV
 rw[List.length_take,List.length_drop]
 omega
def rSlT (K:Fg):V→Option Int→Option Int→Hp→VK→Prop:=λx lo hi H Q=>∃ a xs,x=.ref a∧SqT K H a xs∧
 ¬ (HT.sIx xs.length 0 lo=0∧HT.sIx xs.length xs.length hi=xs.length)∧∀ p,H p=none→Q (.ref p) (upd H p (.tup (cutV xs lo hi)))
theorem zmR:SlR X (rSlT X.K):=by
 intro pins s σ H x v vl vu lo hi sl Q I rx hs pl pu h
 obtain⟨a,xs,rfl,hx,hw,q⟩:=h
 cases rx
 obtain⟨its,r,ht,hz⟩:=I.tuple hx
 have hlen:its.toArray.size=xs.length:=by rw[zst];exact r.length.symm
 refine⟨"tuple",_,PyProof.Rows.slot_tuple_getitem.lookup,ht.typeIs,?_⟩
 refine HT.getItem_tuple_cut ht hs pl pu (by rw[hlen];exact hw) ?_ (by rw[hlen];exact hz)
 rw[hlen]
 refine⟨.ref s.heap.objs.size,_,I.laid (t':=s.toks) (o:=.tup (cutV xs lo hi)) (λb ob q=>Heap.get?_push_of_some _ q) (Nat.le_refl _) ?_,rfl,q _ (I.hok.fresh (Nat.le_refl _))⟩
 exact⟨Nat.le_trans (zeB xs lo hi) hz,_,(r.drop (HT.sIx xs.length 0 lo)).take (HT.sIx xs.length xs.length hi - HT.sIx xs.length 0 lo),IsTup.new _ _⟩
def zmS (K:Fg):R2:=λx y H Q=>∃ a b xs ys,x=.ref a∧y=.ref b∧SqT K H a xs∧SqT K H b ys∧xs≠[]∧xs.length+ys.length≤sizeLine∧
 (ys=[]→Q (.ref a) H)∧(ys≠[]→∀ p,H p=none→Q (.ref p) (upd H p (.tup (xs++ys))))
theorem Vals.nil_iff {xs:List V}{us:List Value}(r:Vals xs us):us=[]↔xs=[]:=by
 cases r with
 | nil=>simp
 | cons _ _=>simp
theorem zlK:OpR X (binaryOp .Add) (zmS X.K):=by
 intro pins s σ H x y v u Q I rx ry h
 obtain⟨a,b,xs,ys,rfl,rfl,ha,hb,hx,hz,q1,q2⟩:=h
 cases rx
 cases ry
 obtain⟨its,r1,p1,_⟩:=I.tuple ha
 obtain⟨its2,r2,p2,_⟩:=I.tuple hb
 refine HT.cat_tup p1 p2 (λz=>hx (r1.nil_iff.mp z)) (λz=>⟨.ref a,H,I,rfl,q1 (r2.nil_iff.mp z)⟩) (λz=>?_) (by rw[←r1.length,←r2.length];exact hz)
 refine⟨.ref s.heap.objs.size,_,I.laid (t':=s.toks) (o:=.tup (xs++ys)) (λb ob q=>Heap.get?_push_of_some _ q) (Nat.le_refl _) ?_,rfl,q2 (λw=>z (r2.nil_iff.mpr w)) _ (I.hok.fresh (Nat.le_refl _))⟩
 exact⟨by rw[List.length_append];exact hz,_,r1.append r2,IsTup.new _ _⟩
end
end L2

namespace L2
open PySem PySem.Spec PyProof.Rows

def ixN (n:Nat) (i:Int):Option Nat:=if 0≤i then (if i<n then some i.toNat else none) else if -(n:Int)≤i then some (i+n).toNat else none
def atI {α:Type}(xs:List α) (i:Int):Option α:=(ixN xs.length i).bind λj=>xs[j]?
theorem zjl {n:Nat}{i:Int}{j:Nat}(h:ixN n i=some j):seqIndex? i n=some j∧j<n∧-(n:Int)≤i∧i<n:=by
 unfold ixN at h
 by_cases h0:0≤i
 ·rw[if_pos h0] at h
  by_cases h1:i<n
  ·rw[if_pos h1] at h
   have e:i.toNat=j:=Option.some.inj h
   exact⟨by rw[seqIndex_of h0 h1,e],by omega,by omega,h1⟩
  ·rw[if_neg h1] at h;cases h
 ·rw[if_neg h0] at h
  by_cases h1:-(n:Int)≤i
  ·rw[if_pos h1] at h
   have e:(i+n).toNat=j:=Option.some.inj h
   exact⟨by rw[seqIndex_neg (by omega) h1,e],by omega,h1,by omega⟩
  ·rw[if_neg h1] at h;cases h
theorem zhb {α:Type}{xs:List α}{i:Int}{v:α}(h:atI xs i=some v):∃ j,seqIndex? i xs.length=some j∧xs[j]?=some v∧j<xs.length∧-(xs.length:Int)≤i∧i<xs.length:=by
 unfold atI at h
 cases e:ixN xs.length i with
 | none=>rw[e] at h;cases h
 | some j=>
  rw[e] at h
  obtain⟨h1,h2,h3,h4⟩:=zjl e
  exact⟨j,h1,h,h2,h3,h4⟩
theorem zap {α:Type}{xs:List α}{j:Nat}{v:α}(h:xs[j]?=some v):atI xs (j:Int)=some v:=by
 have hj:j<xs.length:=(zge.mp h).1
 have e:ixN xs.length (j:Int)=some j:=by
  unfold ixN
  rw[if_pos (by omega),if_pos (by omega)];simp
 unfold atI;rw[e];exact h
def zlL (b:Expr):Prop:=∀ o i,subscripted b false o i=operate [o,i] (getItem o i)
def IxR (X:Cx) (r:R2):Prop:=
 ∀ (value slice:Expr) (pins:List (Addr × Obj)) (s:Shared) (σ:St) (H:Hp) (x y:V) (v u:Value) (Q:VK),Inv X pins σ H s→RelV x v→RelV y u→r x y H Q→
  subscripted slice false v u=operate [v,u] (getItem v u)→wpAny (model X.prog X.w) X.A (subscriptTail value slice v u) (EP X pins σ Q) X.xe s
def MtR (X:Cx) (id:String) (r:V→List V→Hp→VK→Prop):Prop:=
 ∀ (pins:List (Addr × Obj)) (s:Shared) (σ:St) (H:Hp) (x:V) (xs:List V) (v:Value) (us:List Value) (Q:VK),Inv X pins σ H s→RelV x v→Vals xs us→r x xs H Q→
  wpAny (model X.prog X.w) X.A (call (.builtin id) (v::us)) (EP X pins σ Q) X.xe s
section
variable {X : Cx} {a b : Expr} {ta tb : TE} {pos : Pos}
theorem IxR.or {r r':R2}(h:IxR X r) (h':IxR X r'):IxR X (λx y H Q=>r x y H Q∨r' x y H Q):=by
 intro value slice pins s σ H x y v u Q I rx ry q hs
 rcases q with q | q
 ·exact h value slice pins s σ H x y v u Q I rx ry q hs
 ·exact h' value slice pins s σ H x y v u Q I rx ry q hs
theorem zav {r:R2}(hr:IxR X r) (ha:PE X a ta) (hb:PE X b tb) (hs:zlL b):PE X (.Subscript a b pos) (tOp r ta tb):=by
 intro pins s σ H Q I h
 exact Subscript_ (binT ha hb I h λv u s2 x y H2 I2 rx ry q=>hr a b pins s2 σ H2 x y v u Q I2 rx ry q (hs _ _))
def rIxL (K:Fg):R2:=λx y H Q=>∃ p xs i v,x=.ref p∧y=.int i∧SqL K H p xs∧atI xs i=some v∧Q v H
def rIxT (K:Fg):R2:=λx y H Q=>∃ p xs i v,x=.ref p∧y=.int i∧SqT K H p xs∧atI xs i=some v∧Q v H
def rIxS:R2:=λx y H Q=>∃ z i c,x=.str z∧y=.int i∧z.length≤sizeLine∧atI z.cps.toList i=some c∧Q (.str ⟨#[c]⟩) H
theorem zlM:IxR X (rIxL X.K):=by
 intro value slice pins s σ H x y v u Q I rx ry h hs
 obtain⟨p,xs,i,z,rfl,rfl,hq,he,q⟩:=h
 cases rx
 obtain⟨t,rfl⟩:=ry
 obtain⟨its,r,pl,hz⟩:=I.list hq
 obtain⟨j,h1,h2,h3,h4,h5⟩:=zhb he
 obtain⟨w,ew,rw'⟩:=r.get h2
 have hl:=r.length
 have hn:=zf7
 have fin:EP X pins σ Q w s:=⟨z,H,I,rw',q⟩
 by_cases h0:0≤i
 ·have hj:i.toNat=j:=by
   rw[seqIndex_of h0 h5] at h1
   exact Option.some.inj h1
  exact item_listR pl.isList h0 (by omega) (by rw[hj];simpa using ew) fin hs
 ·have hj:(i+(its.toArray.size:Int)).toNat=j:=by
   rw[seqIndex_neg (by omega) h4] at h1
   rw[zst,←hl]
   exact Option.some.inj h1
  exact subscriptTail_builtinR (x:=w) pl.isList.typeIs slot_list_getitem.lookup
   (wpAny_getItem_list_neg (Q:=λr s'=>r=w∧EP X pins σ Q r s') pl.isList (by omega) (by rw[zst] <;> omega) (by omega) (by rw[hj];simpa using ew) ⟨rfl,fin⟩) hs
theorem zmT:IxR X (rIxT X.K):=by
 intro value slice pins s σ H x y v u Q I rx ry h hs
 obtain⟨p,xs,i,z,rfl,rfl,hq,he,q⟩:=h
 cases rx
 obtain⟨t,rfl⟩:=ry
 obtain⟨its,r,pl,hz⟩:=I.tuple hq
 obtain⟨j,h1,h2,h3,h4,h5⟩:=zhb he
 obtain⟨w,ew,rw'⟩:=r.get h2
 have hl:=r.length
 have hn:=zf7
 have fin:EP X pins σ Q w s:=⟨z,H,I,rw',q⟩
 exact subscriptTail_builtinR (x:=w) pl.typeIs slot_tuple_getitem.lookup
  (getItem_tuple (j:=j) (Q:=λr s'=>r=w∧EP X pins σ Q r s') pl (by omega) (by omega) (by rw[zst,←hl];exact h1) (by simpa using ew) ⟨rfl,fin⟩) hs
theorem zmU:IxR X rIxS:=by
 intro value slice pins s σ H x y v u Q I rx ry h hs
 obtain⟨z,i,c,rfl,rfl,hz,he,q⟩:=h
 obtain⟨t,rfl⟩:=rx
 obtain⟨t',rfl⟩:=ry
 obtain⟨j,h1,h2,h3,h4,h5⟩:=zhb he
 have hl:z.cps.toList.length=z.length:=by simp[Str.length]
 rw[hl] at h1 h4 h5
 have hn:=zf7
 exact tail_any (typeIs_str s z t) slot_str_getitem.lookup (getItem_str (c:=c) (by
  have e1:decide (i < -(2 ^ 63:Int))=false:=decide_eq_false (by omega)
  have e2:decide (i≥2 ^ 63)=false:=decide_eq_false (by omega)
  rw[e1,e2,Bool.or_false]) (by rw[h1];simpa using h2) ⟨.str ⟨#[c]⟩,H,I.tok _,⟨_,rfl⟩,q⟩) hs
def rIx (K:Fg):R2:=λx y H Q=>rIxL K x y H Q∨rIxT K x y H Q∨rIxS x y H Q
theorem zmV:IxR X (rIx X.K):=zlM.or (zmT.or zmU)
theorem zil (its:List Value) (n j:Nat) (u:Value):Obj.mapSeq (·.setIfInBounds j u) {cls:=.type "list",data:=.seq its.toArray n}={cls:=.type "list",data:=.seq (its.set j u).toArray n}:=by
 simp[Obj.mapSeq]
theorem Inv.lst {pins:List (Addr × Obj)}{σ:St}{H:Hp}{s:Shared}{p:Addr}{xs:List V}(I:Inv X pins σ H s) (h:H p=some (.lst xs)) :
  ∃ (its:List Value) (n:Nat),Vals xs its∧s.heap.get? p=some {cls:=.type "list",data:=.seq its.toArray n}∧xs.length≤sizeLine:=by
 obtain⟨z,its,n,r,e⟩:=I.hok p _ h
 exact⟨its,n,r,e,z⟩
theorem Inv.lstUpd {pins:List (Addr × Obj)}{σ:St}{H:Hp}{s:Shared}{p:Addr}{xs ys:List V}{its its':List Value}{n n':Nat}{f:Obj→Obj}(I:Inv X pins σ H s) (h:H p=some (.lst xs))
  (ho:s.heap.get? p=some {cls:=.type "list",data:=.seq its.toArray n}) (hf:f {cls:=.type "list",data:=.seq its.toArray n}={cls:=.type "list",data:=.seq its'.toArray n'}) (r:Vals ys its') (hz:ys.length≤sizeLine) (t:Nat) :
  Inv X pins σ (upd H p (.lst ys)) {s with heap:=s.heap.update p f,toks:=t}:=by
 have e:(s.heap.update p f).get? p=some {cls:=.type "list",data:=.seq its'.toArray n'}:=by
  rw[Heap.get?_update_self f ho (by rw[hf] <;> rfl),hf]
 refine I.write (x:=p) (e:=p) (by rw[h];trivial) (.inl rfl) (λb u hb q=>(Heap.get?_update_other _ _ (Ne.symm hb)).trans q) ⟨_,e⟩ ?_
 exact⟨hz,its',n',r,e⟩
def zmW:V→V→V→Hp→(Hp→Prop)→Prop:=λo i v H Q=>∃ p xs k j,o=.ref p∧i=.int k∧H p=some (.lst xs)∧ixN xs.length k=some j∧Q (upd H p (.lst (xs.set j v)))
theorem zda:PSet X zmW:=by
 intro pins s σ H o i v ov iv u Q I ro ri rv h
 obtain⟨p,xs,k,j,rfl,rfl,hp,hj,q⟩:=h
 cases ro
 obtain⟨t,rfl⟩:=ri
 obtain⟨its,n,r,ho,hz⟩:=I.lst hp
 obtain⟨h1,h2,h3,h4⟩:=zjl hj
 have hl:=r.length
 have hn:=zf7
 have I':Inv X pins σ (upd H p (.lst (xs.set j v))) {s with heap:=s.heap.update p (Obj.mapSeq (·.setIfInBounds j u))}:=
  I.lstUpd hp ho (zil its n j u) (r.set rv j) (by rw[List.length_set];exact hz) s.toks
 by_cases h0:0≤k
 ·have hk:k.toNat=j:=by
   rw[seqIndex_of h0 h4] at h1
   exact Option.some.inj h1
  exact PySem.W.ki_setAt ho h0 (by omega) (by rw[zst,←hl];exact h4) (by rw[hk];exact⟨_,I',q⟩)
 ·have hk:(k+(its.toArray.size:Int)).toNat=j:=by
   rw[seqIndex_neg (by omega) h3] at h1
   rw[zst,←hl]
   exact Option.some.inj h1
  exact PySem.W.ki_setBack ho (by omega) (by rw[zst,←hl];exact h3) (by omega) (by rw[hk];exact⟨_,I',q⟩)
theorem zgd (lo hi:Option Int) (n:Nat):(sliceBounds lo hi none n).1=((HT.sIx n 0 lo:Nat):Int)∧(sliceBounds lo hi none n).2.1=((HT.sIx n n hi:Nat):Int)∧(sliceBounds lo hi none n).2.2=1:=by
 refine⟨?_,?_,rfl⟩
 ·cases lo with
  | none=>simp[sliceBounds,HT.sIx]
  | some i=>
   simp only[sliceBounds,HT.sIx,Option.getD_none,show (1:Int)>0 by decide,if_true]
   by_cases h:i<0
   ·simp only[h,if_true] <;> omega
   ·simp only[h,if_false] <;> omega
 ·cases hi with
  | none=>simp[sliceBounds,HT.sIx]
  | some i=>
   simp only[sliceBounds,HT.sIx,Option.getD_none,show (1:Int)>0 by decide,if_true]
   by_cases h:i<0
   ·simp only[h,if_true] <;> omega
   ·simp only[h,if_false] <;> omega
theorem zfA (its:List Value) (lo hi:Option Int):slicePick its.toArray lo hi none=((its.drop (HT.sIx its.length 0 lo)).take (HT.sIx its.length its.length hi - HT.sIx its.length 0 lo)).toArray:=by
 obtain⟨h1,h2,h3⟩:=zgd lo hi its.toArray.size
 unfold slicePick
 rw[h1,h2,h3]
 simp only[sliceRange_one,pick_run,zst] <;> rfl
def rSlL (K:Fg):V→Option Int→Option Int→Hp→VK→Prop:=λx lo hi H Q=>∃ a xs,x=.ref a∧SqL K H a xs∧∀ p,H p=none→Q (.ref p) (upd H p (.lst (cutV xs lo hi)))
theorem zlN:SlR X (rSlL X.K):=by
 intro pins s σ H x v vl vu lo hi sl Q I rx hs pl pu h
 obtain⟨a,xs,rfl,hx,q⟩:=h
 cases rx
 obtain⟨its,r,ht,hz⟩:=I.list hx
 have hlen:=r.length
 refine⟨"list",_,slot_list_getitem.lookup,ht.isList.typeIs,?_⟩
 refine wpAny_getItem_list_slice ht.isList hs pl pu .none (by simp) ?_ (by rw[zst] <;> omega)
 rw[zfA,←hlen]
 refine⟨.ref s.heap.objs.size,_,I.laid (t':=s.toks) (o:=.lst (cutV xs lo hi)) (λb ob q=>Heap.get?_push_of_some _ q) (Nat.le_refl _) ?_,rfl,q _ (I.hok.fresh (Nat.le_refl _))⟩
 exact⟨Nat.le_trans (zeB xs lo hi) hz,_,0,(r.drop (HT.sIx xs.length 0 lo)).take (HT.sIx xs.length xs.length hi - HT.sIx xs.length 0 lo),Heap.get?_push_size _ rfl⟩
def zdh:V→Bool
 | .non=>true
 | .bl _=>true
 | .int _=>true
 | .str _=>true
 | _=>false
def eqV:V→V→Bool
 | .non,.non=>true
 | .bl a,.bl b=>a == b
 | .bl a,.int b=>(if a then 1 else 0) == b
 | .int a,.bl b=>a == (if b then 1 else 0)
 | .int a,.int b=>a == b
 | .str a,.str b=>a == b
 | _,_=>false
theorem zk9 {A:Around}{s:Shared}{y x:V}{u v:Value}(ry:RelV y u) (rx:RelV x v) (fy:zdh y=true) (fx:zdh x=true):SeqAt.EqAt A s u v (eqV y x):=by
 cases y with
 | non=>
  cases ry
  cases x with
  | non=>cases rx;exact SeqAt.EqAt.same _
  | bl b=>cases rx;exact SeqAt.EqAt.none_bool b
  | int b=>obtain⟨t,rfl⟩:=rx;exact SeqAt.EqAt.none_int b t
  | str b=>obtain⟨t,rfl⟩:=rx;exact SeqAt.EqAt.none_str b t
  | _=>exact absurd (show false=true from fx) Bool.false_ne_true
 | bl a=>
  cases ry
  cases x with
  | non=>cases rx;exact SeqAt.EqAt.bool_none a
  | bl b=>cases rx;exact SeqAt.EqAt.bool_bool a b
  | int b=>obtain⟨t,rfl⟩:=rx;exact SeqAt.EqAt.bool_int a b t
  | str b=>obtain⟨t,rfl⟩:=rx;exact SeqAt.EqAt.bool_str a b t
  | _=>exact absurd (show false=true from fx) Bool.false_ne_true
 | int a=>
  obtain⟨t',rfl⟩:=ry
  cases x with
  | non=>cases rx;exact SeqAt.EqAt.int_none a t'
  | bl b=>cases rx;exact SeqAt.EqAt.int_bool a t' b
  | int b=>obtain⟨t,rfl⟩:=rx;exact SeqAt.EqAt.int_int a t' b t
  | str b=>obtain⟨t,rfl⟩:=rx;exact SeqAt.EqAt.int_str a t' b t
  | _=>exact absurd (show false=true from fx) Bool.false_ne_true
 | str a=>
  obtain⟨t',rfl⟩:=ry
  cases x with
  | non=>cases rx;exact SeqAt.EqAt.str_none a t'
  | bl b=>cases rx;exact SeqAt.EqAt.str_bool a t' b
  | int b=>obtain⟨t,rfl⟩:=rx;exact SeqAt.EqAt.str_int a t' b t
  | str b=>obtain⟨t,rfl⟩:=rx;exact SeqAt.EqAt.str_str a t' b t
  | _=>exact absurd (show false=true from fx) Bool.false_ne_true
 | _=>exact absurd (show false=true from fy) Bool.false_ne_true
def eqU (x:V) (u:Value):Bool:=match u with
 | .none=>eqV .non x
 | .bool b=>eqV (.bl b) x
 | .int i _=>eqV (.int i) x
 | .str z _=>eqV (.str z) x
 | _=>false
theorem zla {x y:V}{u:Value}(r:RelV y u) (f:zdh y=true):eqU x u=eqV y x:=by
 cases y with
 | non=>cases r;rfl
 | bl b=>cases r;rfl
 | int i=>obtain⟨t,rfl⟩:=r;rfl
 | str z=>obtain⟨t,rfl⟩:=r;rfl
 | _=>exact absurd (show false=true from f) Bool.false_ne_true
theorem zhc {x:V} : ∀ {xs:List V}{us:List Value},Vals xs us→xs.all zdh=true→us.any (eqU x)=xs.any λy=>eqV y x
 | _,_,.nil,_=>rfl
 | y::xs,u::us,.cons r t,f=>by
  rw[List.all_cons,Bool.and_eq_true] at f
  rw[List.any_cons,List.any_cons,zla r f.1,zhc t f.2]
theorem zfB {A:Around}{s:Shared}{x:V}{v:Value}(rx:RelV x v) (fx:zdh x=true):∀ {xs:List V}{us:List Value},Vals xs us→xs.all zdh=true→∀ u∈us,SeqAt.EqAt A s u v (eqU x u)
 | _,_,.nil,_=>λu hu=>by cases hu
 | y::xs,u::us,.cons r t,f=>λu' hu=>by
  rw[List.all_cons,Bool.and_eq_true] at f
  rcases List.mem_cons.mp hu with rfl | hu
  ·rw[zla r f.1];exact zk9 r rx f.1 fx
  ·exact zfB rx fx t f.2 u' hu
def inV (x:V) (xs:List V):Bool:=xs.any λy=>eqV y x
def rIn (K:Fg) (neg:Bool):R2:=λx y H Q=>∃ p xs,y=.ref p∧(SqL K H p xs∨SqT K H p xs)∧zdh x=true∧xs.all zdh=true∧Q (.bl (if neg then !inV x xs else inV x xs)) H
theorem zjm:OpR X (compareOp .In) (rIn X.K false):=by
 intro pins s σ H x y v u Q I rx ry h
 obtain⟨p,xs,rfl,hq,fx,fs,q⟩:=h
 cases ry
 rcases hq with hq | hq
 ·obtain⟨its,r,pl,hz⟩:=I.list hq
  refine SeqAt.in_listAt (eqU x) pl.isList (λw hw=>zfB rx fx r fs w (by simpa using hw)) ⟨.bl _,H,I,rfl,?_⟩
  rw[show its.toArray.any (eqU x)=its.any (eqU x) by simp,zhc r fs]
  exact q
 ·obtain⟨its,r,pl,hz⟩:=I.tuple hq
  refine SeqAt.in_tupleAt (eqU x) pl (λw hw=>zfB rx fx r fs w (by simpa using hw)) ⟨.bl _,H,I,rfl,?_⟩
  rw[show its.toArray.any (eqU x)=its.any (eqU x) by simp,zhc r fs]
  exact q
theorem zgf:zbZ X (.builtin "len") (λxs H Q=>∃ p ys,xs=[.ref p]∧(SqL X.K H p ys∨SqT X.K H p ys)∧Q (.int ys.length) H):=by
 intro pins s σ H xs us Q I r h
 obtain⟨p,ys,rfl,hq,q⟩:=h
 obtain⟨u,rfl,rx⟩:=zf8 r
 cases rx
 have hn:=zf7
 rcases hq with hq | hq
 ·obtain⟨its,r',pl,hz⟩:=I.list hq
  have hlen:=r'.length
  exact Calls.call_len_list pl.isList (by simp only[zst] <;> omega) ⟨.int ys.length,H,I.tok _,⟨s.toks+1,by rw[zst,hlen]⟩,q⟩
 ·obtain⟨its,r',pl,hz⟩:=I.tuple hq
  have hlen:=r'.length
  exact len_tuple pl (by simp only[zst] <;> omega) ⟨.int ys.length,H,I.tok _,⟨s.toks+1,by rw[zst,hlen]⟩,q⟩
theorem zgg:zbZ X (.type "list") (λxs H Q=>∃ p ys,xs=[.ref p]∧(SqL X.K H p ys∨SqT X.K H p ys)∧∀ l,H l=none→Q (.ref l) (upd H l (.lst ys))):=by
 intro pins s σ H xs us Q I r h
 obtain⟨p,ys,rfl,hq,q⟩:=h
 obtain⟨u,rfl,rx⟩:=zf8 r
 cases rx
 have fin:∀ (its:List Value),Vals ys its→ys.length≤sizeLine→∀ (h':Heap) (c':Nat),(∀ b o',s.heap.get? b=some o'→h'.get? b=some o')→
   h'.get? s.heap.objs.size=some {cls:=.type "list",dict:=none,data:=.seq its.toArray c',slots:=#[]}→EP X pins σ Q (.ref s.heap.objs.size) {s with heap:=h'}:=λits r' hz h' c' kp e=>
  ⟨.ref s.heap.objs.size,_,I.laid (t':=s.toks) kp (Nat.le_refl _) (show zbL X.prog X.w _ h' _ (.lst ys) from ⟨hz,its,c',r',e⟩),rfl,q _ (I.hok.fresh (Nat.le_refl _))⟩
 rcases hq with hq | hq
 ·obtain⟨its,r',pl,hz⟩:=I.list hq
  have hlen:=r'.length
  obtain⟨o,ho,hc,n,hd⟩:=pl.isList
  exact call_list_seq p (.inl rfl) ho hc hd (λh' c' kp e=>fin its r' hz h' c' kp e) (by simp only[zst] <;> omega)
 ·obtain⟨its,r',pl,hz⟩:=I.tuple hq
  have hlen:=r'.length
  obtain⟨o,ho,hc,n,hd⟩:=pl
  exact call_list_seq p (.inr rfl) ho hc hd (λh' c' kp e=>fin its r' hz h' c' kp e) (by simp only[zst] <;> omega)
theorem zfC:zbZ X (.type "tuple") (λxs H Q=>∃ p ys,xs=[.ref p]∧((SqL X.K H p ys∧∀ l,H l=none→Q (.ref l) (upd H l (.tup ys)))∨(SqT X.K H p ys∧Q (.ref p) H))):=by
 intro pins s σ H xs us Q I r h
 obtain⟨p,ys,rfl,h⟩:=h
 obtain⟨u,rfl,rx⟩:=zf8 r
 cases rx
 rcases h with ⟨hq,q⟩ | ⟨hq,q⟩
 ·obtain⟨its,r',pl,hz⟩:=I.list hq
  have hlen:=r'.length
  refine call_tuple_list pl.isList (λh' kp=>?_) (by simp only[zst] <;> omega)
  have I1:Inv X pins σ H {s with heap:=h'}:=I.kept (t':=s.toks) kp
  have I2:Inv X pins σ (upd H h'.objs.size (.tup ys)) {s with heap:=h'.push {cls:=.type "tuple",data:=.seq its.toArray}}:=
   I1.laid (t':=s.toks) (λb o e=>Heap.get?_push_of_some _ e) (Nat.le_refl _) (show zbL X.prog X.w _ _ _ (.tup ys) from ⟨hz,its,r',IsTup.new _ _⟩)
  exact⟨.ref h'.objs.size,_,I2,rfl,q _ (I1.hok.fresh (Nat.le_refl _))⟩
 ·obtain⟨its,r',pl,hz⟩:=I.tuple hq
  exact call_tuple_same pl ⟨.ref p,H,I,rfl,q⟩
def tyV (K:Fg) (T:String) (x:V) (H:Hp):Prop:=match x with
 | .str _=>T ="str"
 | .int _=>T ="int"
 | .ref p=>(T ="list" ∧∃ xs,SqL K H p xs)∨(T ="tuple" ∧∃ o,K.lookup p=some o∧o.cls=.type "tuple" ∧o.dict=none)∨
   (T ="dict" ∧((∃ kvs,H p=some (.dK kvs))∨∃ kvs,H p=some (.dT kvs)))∨(T ="set" ∧∃ S n,H p=some (.set S n))
 | _=>False
theorem zmX {pins:List (Addr × Obj)}{σ:St}{H:Hp}{s:Shared}{T:String}{x:V}{v:Value}(I:Inv X pins σ H s) (r:RelV x v) (ty:tyV X.K T x H) :
  s.TypeIs v T∧∀ a,v=.ref a→∃ ob,s.heap.get? a=some ob∧ob.dict=none:=by
 cases x with
 | str z=>
  obtain⟨t,rfl⟩:=r
  cases (show T ="str" from ty)
  exact⟨typeIs_str s z t,λ_ e=>nomatch e⟩
 | int i=>
  obtain⟨t,rfl⟩:=r
  cases (show T ="int" from ty)
  exact⟨typeIs_int s i t,λ_ e=>nomatch e⟩
 | ref p=>
  cases r
  rcases ty with ⟨rfl,xs,hq⟩ | ⟨rfl,o,hk,hc,hd⟩ | ⟨rfl,hk⟩ | ⟨rfl,S,n,hk⟩
  ·obtain⟨its,_,pl,_⟩:=I.list hq
   refine⟨pl.isList.typeIs,λa e=>?_⟩
   cases e
   obtain⟨o,n,e,c,hd,_⟩:=pl
   exact⟨o,e,hd⟩
  ·refine⟨⟨o,I.kIn p o hk,hc⟩,λa e=>?_⟩
   cases e
   exact⟨o,I.kIn _ o hk,hd⟩
  ·have z:∃ o,s.heap.get? p=some o∧o.ExactDict:=by
    rcases hk with ⟨kvs,hk⟩ | ⟨kvs,hk⟩
    ·obtain⟨_,_,_,_,o,_,_,e,ex,_⟩:=I.hok p _ hk
     exact⟨o,e,ex⟩
    ·obtain⟨_,_,_,_,o,_,_,e,ex,_⟩:=I.hok p _ hk
     exact⟨o,e,ex⟩
   obtain⟨o,e,ex⟩:=z
   refine⟨⟨o,e,ex.1⟩,λa e2=>?_⟩
   cases e2
   exact⟨o,e,ex.2.1⟩
  ·obtain⟨o,_,_,_,e,ex,_⟩:=I.hok p _ hk
   refine⟨⟨o,e,ex.1⟩,λa e2=>?_⟩
   cases e2
   exact⟨o,e,ex.2.1⟩
 | _=>exact False.elim ty
def tBM (K:Fg) (T:String) (r:V→List V→Hp→VK→Prop) (to:TE) (t:TA):TE:=λσ H Q=>to σ H λx H1=>tyV K T x H1∧t σ H1 λxs H2=>r x xs H2 Q
variable {o e : Expr} {es : List Expr} {to : TE} {t : TA} {name : Str} {apos cpos : Pos} {T id : String} {r : V → List V → Hp → VK → Prop}
theorem zmY (pa:PlainAttrs T) (slot:Slot T name id) (hty:typeOf (.builtin id)=pure (.type "method_descriptor")) (hm:MtR X id r) (ho:PE X o to) (ha:PA X (e::es) t)
  (hbase:attributeBase o name X.env (eval o X.env)=eval o X.env:=by rfl)
  (hfew:((backTo cpos (starEach (e::es) X.env)).all (λx=>!x.1) && (backToKw cpos (keywordEach [] X.env)).all (λx=>x.1.isSome)
   && decide ((e::es).length+([]:List Keyword).length+(if ([]:List Keyword).isEmpty then 0 else 1)<30))=true:=by rfl)
  (hline:(apos.endLine == cpos.line)=true:=by rfl) (hs:starEach (e::es) X.env=(false,eval e X.env)::starEach es X.env:=by rfl) (hplain:(backTo cpos (starEach es X.env)).any (·.1)=false:=by rfl) :
  PE X (.Call (.Attribute o name apos) (e::es) [] cpos) (tBM X.K T r to t):=by
 intro pins s σ H Q I h
 refine wpAny_Call_method_late hbase hfew hline rfl (thn (ho pins s σ H _ I h) λv s1 ⟨x,H1,I1,r1,ty,q1⟩=>?_)
 obtain⟨h1,h2⟩:=zmX I1 r1 ty
 refine⟨T,id,pa,slot,hty,h1,h2,?_⟩
 have hA:=ha cpos pins s1 σ H1 _ I1 q1
 rw[hs] at hA ⊢
 refine Calls.callWith_builtin (by show (false || (backTo cpos (starEach es X.env)).any (·.1))=false;rw[hplain] <;> rfl) (Calls.evalArgs_plain ?_)
 exact thn hA λus s2 ⟨vs,H2,I2,r2,q2⟩=>hm pins s2 σ H2 x vs v us Q I2 r1 r2 q2
/- xs.append(e),list.index on a module's tuple .. are MtR facts of 06m -/
end
end L2

namespace L2
open PySem PySem.Spec PyProof.Rows

def MtM (X:Cx) (id:String) (r:V→List V→Hp→VK→Prop):Prop:=
 ∀ (pins:List (Addr × Obj)) (s:Shared) (σ:St) (H:Hp) (x:V) (xs:List V) (v:Value) (us:List Value) (Q:VK),Inv X pins σ H s→RelV x v→Vals xs us→r x xs H Q→
  wpAny (model X.prog X.w) X.A (call (.builtin id) (v::us)) (EP X pins σ Q) X.xe s
theorem Vals.one:∀ {x:V}{us:List Value},Vals [x] us→∃ u,us=[u]∧RelV x u
 | _,_,.cons r .nil=>⟨_,rfl,r⟩
theorem Vals.two:∀ {x y:V}{us:List Value},Vals [x,y] us→∃ u v,us=[u,v]∧RelV x u∧RelV y v
 | _,_,_,.cons r (.cons q .nil)=>⟨_,_,rfl,r,q⟩
theorem Vals.rep {xs:List V}{us:List Value}(h:Vals xs us):∀ k:Nat,Vals (List.replicate k xs).flatten (List.replicate k us).flatten
 | 0=>.nil
 | k+1=>by
  rw[List.replicate_succ,List.replicate_succ,List.flatten_cons,List.flatten_cons]
  exact Vals.append h (Vals.rep h k)
theorem zgh (its:List Value):∀ (k:Nat) (acc:List Value),
  List.foldl (λx1 x2=>x1++x2) acc.toArray (List.replicate k its.toArray)=(acc++(List.replicate k its).flatten).toArray
 | 0,acc=>by simp
 | k+1,acc=>by
  have e:acc.toArray++its.toArray=(acc++its).toArray:=by simp
  have e2:(acc++its)++(List.replicate k its).flatten=acc++(List.replicate (k+1) its).flatten:=by
   rw[List.replicate_succ,List.flatten_cons,List.append_assoc]
  rw[←e2,←zgh its k (acc++its),←e,List.replicate_succ,List.foldl_cons]
section
variable {X : Cx} {pins : List (Addr × Obj)} {σ : St} {H : Hp} {s : Shared} {l b : Addr} {xs ys zs : List V}

theorem Inv.lset {its its':List Value}{n:Nat}{f:Array Value→Array Value}{t':Nat}(I:Inv X pins σ H s) (hH:H l=some (.lst xs))
  (e:s.heap.get? l=some {cls:=.type "list",data:=.seq its.toArray n}) (hf:f its.toArray=its'.toArray) (hv:Vals ys its') (hz:ys.length≤sizeLine) :
  Inv X pins σ (upd H l (.lst ys)) {s with heap:=s.heap.update l (Obj.mapSeq f),toks:=t'}:=by
 have q:=PySem.IsL.update e f
 rw[hf] at q
 refine I.write (x:=l) (e:=l) (by rw[hH];exact trivial) (.inl rfl) (λb' u hb hu=>(Heap.get?_update_other s.heap (Obj.mapSeq f) (Ne.symm hb)).trans hu) ⟨_,q⟩ ?_
 exact⟨hz,its',_,hv,q⟩
theorem Inv.lnew {its:List Value}{t':Nat}(I:Inv X pins σ H s) (hv:Vals ys its) (hz:ys.length≤sizeLine) :
  Inv X pins σ (upd H s.heap.objs.size (.lst ys)) {s with heap:=s.heap.push {cls:=.type "list",data:=.seq its.toArray},toks:=t'}:=
 I.laid (λ_ _ q=>Heap.get?_push_of_some _ q) (Nat.le_refl _) ⟨hz,its,0,hv,Heap.get?_push_size _ rfl⟩
theorem Inv.fresh (I:Inv X pins σ H s):H s.heap.objs.size=none:=I.hok.fresh (Nat.le_refl _)
theorem Inv.lstM (I:Inv X pins σ H s) (hH:H l=some (.lst xs)):xs.length≤sizeLine∧∃ (its:List Value) (n:Nat),Vals xs its∧xs.length=its.length∧s.heap.get? l=some {cls:=.type "list",data:=.seq its.toArray n}:=by
 obtain⟨z,its,n,r,e⟩:=I.hok l _ hH
 exact⟨z,its,n,r,r.length,e⟩
theorem zhL {n:Nat}(h:n≤sizeLine):Builtin.List.listTooLong n=false:=by
 unfold Builtin.List.listTooLong
 exact decide_eq_false (by omega)
end

section
variable {X : Cx}

def zjn:V→List V→Hp→VK→Prop:=λx vs H Q=>∃ l xs y,x=.ref l∧vs=[y]∧H l=some (.lst xs)∧xs.length<sizeLine∧Q .non (upd H l (.lst (xs++[y])))
theorem zgi:MtM X "list.append" zjn:=by
 intro pins s σ H x vs v us Q I rx rv h
 obtain⟨l,xs,y,rfl,rfl,hH,hz,q⟩:=h
 cases rx
 obtain⟨u,rfl,ru⟩:=rv.one
 obtain⟨z,its,n,r,hl,e⟩:=I.lstM hH
 refine call_meets F.slot_list_append ⟨_,e,rfl⟩ F.entry_list_append (F.args_list_append_2 _ _) (PySem.list_append l its.toArray n u (by rw[zst];omega)) ⟨e,?_⟩
 refine⟨.non,_,I.lset (its':=its++[u]) hH e (by simp) (r.append (.cons ru .nil)) ?_,rfl,q⟩
 rw[List.length_append,List.length_singleton]
 omega
def zlO:V→List V→Hp→VK→Prop:=λx vs H Q=>∃ l b xs zs,x=.ref l∧vs=[.ref b]∧H l=some (.lst xs)∧H b=some (.lst zs)∧xs.length+zs.length≤sizeLine∧Q .non (upd H l (.lst (xs++zs)))
theorem zjo:MtM X "list.extend" zlO:=by
 intro pins s σ H x vs v us Q I rx rv h
 obtain⟨l,b,xs,zs,rfl,rfl,hH,hB,hz,q⟩:=h
 cases rx
 obtain⟨u,rfl,ru⟩:=rv.one
 cases ru
 obtain⟨z,its,n,r,hl,e⟩:=I.lstM hH
 obtain⟨z2,its2,n2,r2,hl2,e2⟩:=I.lstM hB
 have hsz:its.toArray.size+its2.toArray.size≤sizeLine:=by rw[zst,zst];omega
 have hlong:¬ (!its.toArray.isEmpty && Builtin.List.listTooLong (its.toArray.size+its2.toArray.size))=true:=by
  rw[zhL hsz,Bool.and_false]
  exact Bool.false_ne_true
 refine call_meets F.slot_list_extend ⟨_,e,rfl⟩ F.entry_list_extend (F.args_list_extend_2 _ _)
  (AutoSeq1.list_extend_list_list_0 l its.toArray n b its2.toArray n2 hlong (by rw[zst];omega) (by omega)) ⟨e,e2,?_⟩
 refine⟨.non,_,I.lset (its':=its++its2) hH e (by simp) (r.append r2) ?_,rfl,q⟩
 rw[List.length_append]
 omega
def rCat:R2:=λx y H Q=>∃ l b xs zs,x=.ref l∧y=.ref b∧H l=some (.lst xs)∧H b=some (.lst zs)∧xs.length+zs.length≤sizeLine∧∀ p,H p=none→Q (.ref p) (upd H p (.lst (xs++zs)))
theorem zmZ:OpR X (binaryOp .Add) rCat:=by
 intro pins s σ H x y v u Q I rx ry h
 obtain⟨l,b,xs,zs,rfl,rfl,hH,hB,hz,q⟩:=h
 cases rx
 cases ry
 obtain⟨z,its,n,r,hl,e⟩:=I.lstM hH
 obtain⟨z2,its2,n2,r2,hl2,e2⟩:=I.lstM hB
 refine PySem.P.add_list e e2 ?_ (by rw[zst,zst];omega)
 have ea:its.toArray++its2.toArray=(its++its2).toArray:=by simp
 rw[ea]
 exact⟨.ref _,_,I.lnew (t':=s.toks) (r.append r2) (by rw[List.length_append];omega),rfl,q _ I.fresh⟩
def rRep:R2:=λx y H Q=>∃ l k xs,x=.ref l∧y=.int k∧H l=some (.lst xs)∧-(2 ^ 63)≤k∧k<2 ^ 63∧xs.length * k.toNat≤sizeLine∧
 ∀ p,H p=none→Q (.ref p) (upd H p (.lst (List.replicate k.toNat xs).flatten))
theorem zlP {α:Type}(xs:List α) (k:Nat):(List.replicate k xs).flatten.length=k * xs.length:=by
 induction k with
 | zero=>simp
 | succ k ih=>rw[List.replicate_succ,List.flatten_cons,List.length_append,ih,Nat.succ_mul,Nat.add_comm]
theorem zm0:OpR X (binaryOp .Mult) rRep:=by
 intro pins s σ H x y v u Q I rx ry h
 obtain⟨l,k,xs,rfl,rfl,hH,h1,h2,hz,q⟩:=h
 cases rx
 obtain⟨t,rfl⟩:=ry
 obtain⟨z,its,n,r,hl,e⟩:=I.lstM hH
 have hlen:its.toArray.size * k.toNat≤sizeLine:=by rw[zst,←hl];exact hz
 have hcap:¬ its.toArray.size * k.toNat>(2 ^ 63 - 1) / 8:=by
  have:(sizeLine:Nat)≤(2 ^ 63 - 1) / 8:=by decide
  omega
 have hfit:¬ (!Builtin.List.listFitsIndex k)=true:=by
  rw[fitsIndex_both h1 h2]
  exact Bool.false_ne_true
 have hlong:¬ Builtin.List.listTooLong (its.toArray.size * k.toNat)=true:=by
  rw[zhL hlen]
  exact Bool.false_ne_true
 have hnew:List.foldl (λx1 x2=>x1++x2) #[] (List.replicate (if its.toArray.isEmpty=true then 0 else k.toNat) its.toArray)=(List.replicate k.toNat its).flatten.toArray:=by
  have f0:∀ m:Nat,List.foldl (λx1 x2=>x1++x2) #[] (List.replicate m its.toArray)=(List.replicate m its).flatten.toArray:=λm=>by
   have:=zgh its m []
   rw[List.nil_append] at this
   exact this
  rw[f0]
  cases its with
  | nil=>simp
  | cons a r'=>rw[if_neg (by simp)]
 refine wpAny_binaryOp_repeat_ref (T:="list") (U:="int") (by decide) ⟨_,e,rfl⟩ (λs'=>typeIs_int s' k t) noFill_list_mul F.fills_int_mul F.slot_int_rmul repeat_list F.slot_int_index.lookup
  (call_meets F.slot_int_rmul (typeIs_int s k t) F.entry_int_rmul (F.args_int_rmul_2 _ _) (int___rmul___int_list k t l its.toArray n)
   ⟨e,rfl,⟨_,e,rfl⟩,call_meets F.slot_list_mul ⟨_,e,rfl⟩ F.entry_list_mul (F.args_list_mul_2 _ _) (AutoListH.list___mul___list_int_3 l its.toArray n k t hfit hcap hlong) ⟨e,?_⟩⟩)
 rw[hnew]
 exact⟨.ref _,_,I.lnew (t':=s.toks) (r.rep k.toNat) (by rw[zlP,Nat.mul_comm];exact hz),rfl,q _ I.fresh⟩
end

section
variable {prog : Program} {w : World} {A : Around} {E : Value → Shared → Prop} {s : Shared}
set_option maxRecDepth 100000 in
end

section
variable {X : Cx}
end
end L2
namespace L2
open PySem PySem.Spec PyProof.Rows

section
variable {κ : Type} [DecidableEq κ]
def valV (kvs:List (κ × V)) (k:κ):Option V:=(kvs.find? λkv=>decide (kv.1=k)).map (·.2)
def putK (kvs:List (κ × V)) (k:κ) (v:V):List (κ × V):=
 if (kvs.any λkv=>decide (kv.1=k))=true then kvs.map (λkv=>if kv.1=k then (kv.1,v) else kv) else kvs++[(k,v)]
def zb0 (kvs:List (κ × V)) (k:κ):List (κ × V):=kvs.filter λkv=>decide (kv.1≠k)
theorem zbv {p:κ × V}{r:List (κ × V)}{k:κ}(e:p.1=k):valV (p::r) k=some p.2:=by simp[valV,List.find?_cons,e]
theorem zbt {p:κ × V}{r:List (κ × V)}{k:κ}(e:¬ p.1=k):valV (p::r) k=valV r k:=by simp[valV,List.find?_cons,e]
theorem zcj (k:κ):∀ kvs:List (κ × V),(kvs.any λkv=>decide (kv.1=k))=(valV kvs k).isSome
 | []=>rfl
 | p::r=>by
  rw[List.any_cons]
  by_cases e:p.1=k
  ·simp only[zbv e,decide_eq_true e,Bool.true_or,Option.isSome_some]
  ·rw[zbt e,decide_eq_false e,Bool.false_or];exact zcj k r
theorem zhM (k j:κ) (y:V):∀ kvs:List (κ × V),valV (kvs.map λkv=>if kv.1=k then (kv.1,y) else kv) j=(valV kvs j).map λx=>if j=k then y else x
 | []=>rfl
 | p::r=>by
  have ih:=zhM k j y r
  rw[zmc]
  by_cases h:p.1=k
  ·rw[if_pos h]
   by_cases e:p.1=j
   ·rw[zbv (p:=(p.1,y)) e,zbv e,Option.map_some,if_pos (e.symm.trans h)]
   ·rw[zbt (p:=(p.1,y)) e,zbt e,ih]
  ·rw[if_neg h]
   by_cases e:p.1=j
   ·rw[zbv (p:=p) e,zbv e,Option.map_some,if_neg (λz=>h (e.trans z))]
   ·rw[zbt (p:=p) e,zbt e,ih]
theorem zgj (k j:κ) (y:V):∀ kvs:List (κ × V),valV kvs k=none→valV (kvs++[(k,y)]) j=if j=k then some y else valV kvs j
 | [],_=>by
  by_cases e:k=j
  ·rw[if_pos e.symm];exact zbv (p:=(k,y)) e
  ·rw[if_neg (λz=>e z.symm)];exact zbt (p:=(k,y)) e
 | p::r,hn=>by
  rw[List.cons_append]
  have hk:¬ p.1=k:=λz=>by rw[zbv z] at hn;cases hn
  rw[zbt hk] at hn
  have ih:=zgj k j y r hn
  by_cases e:p.1=j
  ·rw[zbv e,zbv e,if_neg (λz=>hk (e.trans z))]
  ·rw[zbt e,zbt e,ih]
theorem zdH (kvs:List (κ × V)) (k j:κ) (y:V):valV (putK kvs k y) j=if j=k then some y else valV kvs j:=by
 unfold putK
 by_cases a:(kvs.any λkv=>decide (kv.1=k))=true
 ·rw[if_pos a,zhM]
  rw[zcj] at a
  by_cases e:j=k
  ·obtain⟨x,hx⟩:=Option.isSome_iff_exists.mp a
   rw[if_pos e,e,hx,Option.map_some,if_pos rfl]
  ·rw[if_neg e]
   cases valV kvs j with
   | none=>rfl
   | some x=>rw[Option.map_some,if_neg e]
 ·rw[if_neg a]
  refine zgj k j y kvs ?_
  rw[zcj] at a
  cases q:valV kvs k with
  | none=>rfl
  | some x=>rw[q] at a;exact (a rfl).elim
theorem zdA (kvs:List (κ × V)) (k:κ) (v:V):(putK kvs k v).length≤kvs.length+1:=by
 unfold putK
 split
 ·rw[zlm];omega
 ·rw[List.length_append,List.length_cons,List.length_nil];omega
theorem zkr {kvs:List (κ × V)}{k:κ}(v:V) (h:valV kvs k=none):putK kvs k v=kvs++[(k,v)]:=by
 unfold putK
 rw[zcj,h]
 exact if_neg (by decide)
theorem RelO.isSome_eq {o:Option V}{u:Option Value}(r:RelO o u):o.isSome=u.isSome:=by
 cases o with
 | none=>cases u with
  | none=>rfl
  | some _=>exact (show False from r).elim
 | some _=>cases u with
  | none=>exact (show False from r).elim
  | some _=>rfl
theorem RelO.getD {o:Option V}{u:Option Value}{d:V}{d':Value}(r:RelO o u) (rd:RelV d d'):RelV (o.getD d) (u.getD d'):=by
 cases o with
 | none=>cases u with
  | none=>exact rd
  | some _=>exact (show False from r).elim
 | some _=>cases u with
  | none=>exact (show False from r).elim
  | some _=>exact r
theorem KV.val {kvs:List (κ × V)}{vs:List (κ × Value)}(r:KV kvs vs) (k:κ):RelO (valV kvs k) (valueAt vs k):=by
 unfold KV at r
 induction r with
 | nil=>exact True.intro
 | @cons p q ps qs h t ih=>
  obtain⟨h1,h2⟩:=h
  by_cases e:p.1=k
  ·have e':q.1=k:=h1.symm.trans e
   have b:valueAt (q::qs) k=some q.2:=by simp[valueAt,List.find?_cons,e']
   rw[zbv e,b];exact h2
  ·have e':¬ q.1=k:=λz=>e (h1.trans z)
   have b:valueAt (q::qs) k=valueAt qs k:=by simp[valueAt,List.find?_cons,e']
   rw[zbt e,b];exact ih
theorem KV.any {kvs:List (κ × V)}{vs:List (κ × Value)}(r:KV kvs vs) (k:κ):(kvs.any λkv=>decide (kv.1=k))=vs.any λkv=>decide (kv.1=k):=by
 unfold KV at r
 induction r with
 | nil=>rfl
 | cons h t ih=>rw[List.any_cons,List.any_cons,ih,h.1]
theorem KV.repl {kvs:List (κ × V)}{vs:List (κ × Value)}(r:KV kvs vs) (k:κ) {y:V}{u:Value}(ry:RelV y u) :
  KV (kvs.map λkv=>if kv.1=k then (kv.1,y) else kv) (vs.map λkv=>if kv.1=k then (kv.1,u) else kv):=by
 unfold KV at r ⊢
 induction r with
 | nil=>exact .nil
 | @cons p q ps qs h t ih=>
  rw[zmc,zmc]
  refine .cons ?_ ih
  obtain⟨h1,h2⟩:=h
  by_cases e:p.1=k
  ·rw[if_pos e,if_pos (h1.symm.trans e)];exact⟨h1,ry⟩
  ·rw[if_neg e,if_neg (λz=>e (h1.trans z))];exact⟨h1,h2⟩
theorem KV.put {kvs:List (κ × V)}{vs:List (κ × Value)}(r:KV kvs vs) (k:κ) {y:V}{u:Value}(ry:RelV y u):KV (putK kvs k y) (stored vs k u):=by
 unfold putK stored
 rw[r.any k]
 by_cases e:(vs.any λkv=>decide (kv.1=k))=true
 ·rw[if_pos e,if_pos e];exact r.repl k ry
 ·rw[if_neg e,if_neg e];exact Paired.snoc r ⟨rfl,ry⟩
theorem KV.drop {kvs:List (κ × V)}{vs:List (κ × Value)}(r:KV kvs vs) (k:κ):KV (zb0 kvs k) (without vs k):=by
 unfold KV at r ⊢
 unfold zb0 without
 induction r with
 | nil=>exact .nil
 | @cons p q ps qs h t ih=>
  obtain⟨h1,h2⟩:=h
  rw[List.filter_cons,List.filter_cons]
  by_cases e:p.1=k
  ·have a:¬ decide (p.1≠k)=true:=by simp[e]
   have b:¬ decide (q.1≠k)=true:=by simp[h1.symm.trans e]
   rw[if_neg a,if_neg b];exact ih
  ·have e':¬ q.1=k:=λz=>e (h1.trans z)
   have a:decide (p.1≠k)=true:=by simp[e]
   have b:decide (q.1≠k)=true:=by simp[e']
   rw[if_pos a,if_pos b];exact .cons ⟨h1,h2⟩ ih
theorem KV.keys {kvs:List (κ × V)}{vs:List (κ × Value)}(r:KV kvs vs):kvs.map (·.1)=vs.map (·.1):=by
 unfold KV at r
 induction r with
 | nil=>rfl
 | cons h t ih=>rw[zmc,zmc,ih,h.1]
theorem KV.length {kvs:List (κ × V)}{vs:List (κ × Value)}(r:KV kvs vs):kvs.length=vs.length:=Paired.length r
theorem zhN (kvs:List (κ × V)) (k:κ):(zb0 kvs k).length≤kvs.length:=List.length_filter_le _ _
end


theorem zgk {P:Program}{w:World}{k:Key}{u:Value}(r:RelV (kV k) u):(zbj P w).is k u=true:=by
 cases k with
 | inl i=>obtain⟨t,e⟩:=(show ∃ t,u=Value.int i t from r);subst e;exact zg6 P w i t
 | inr x=>obtain⟨t,e⟩:=(show ∃ t,u=Value.str x t from r);subst e;exact zg7 P w x t
theorem zgl {P:Program}{w:World} : ∀ {ks:List Key}{us:List Value},Vals (ks.map kV) us→ItemsAre (zbj P w) ks us
 | [],_,r=>by rw[List.map_nil] at r;cases r;exact .nil
 | k::ks,_,r=>by
  rw[zmc] at r
  cases r with
  | cons h t=>exact .cons (zgk h) (zgl t)
abbrev KT (H:Hp):List (List Key × V)→List (List Key × Addr × Value)→Prop:=Paired λp q=>p.1=q.1∧H q.2.1=some (.tup (p.1.map kV))∧RelV p.2 q.2.2
theorem KT.val {H:Hp}{kvs:List (List Key × V)}{xs:List (List Key × Addr × Value)}(r:KT H kvs xs) (k:List Key):RelO (valV kvs k) ((atKey xs k).map (·.2)):=by
 induction r with
 | nil=>exact True.intro
 | @cons p q ps qs h t ih=>
  obtain⟨h1,_,h2⟩:=h
  by_cases e:p.1=k
  ·have e':q.1=k:=h1.symm.trans e
   have b:atKey (q::qs) k=some q.2:=by simp[atKey,List.find?_cons,e']
   rw[zbv e,b];exact h2
  ·have e':¬ q.1=k:=λz=>e (h1.trans z)
   have b:atKey (q::qs) k=atKey qs k:=by simp[atKey,List.find?_cons,e']
   rw[zbt e,b];exact ih
theorem KT.repl {H:Hp}{kvs:List (List Key × V)}{xs:List (List Key × Addr × Value)}(r:KT H kvs xs) (k:List Key) {y:V}{u:Value}(ry:RelV y u) :
  KT H (kvs.map λkv=>if kv.1=k then (kv.1,y) else kv) (xs.map (putAt k u)):=by
 induction r with
 | nil=>exact .nil
 | @cons p q ps qs h t ih=>
  rw[zmc,zmc]
  refine .cons ?_ ih
  obtain⟨h1,h2,h3⟩:=h
  unfold putAt
  by_cases e:p.1=k
  ·rw[if_pos e,if_pos (h1.symm.trans e)];exact⟨h1,h2,ry⟩
  ·rw[if_neg e,if_neg (λz=>e (h1.trans z))];exact⟨h1,h2,h3⟩
theorem KT.put {H:Hp}{kvs:List (List Key × V)}{xs:List (List Key × Addr × Value)}(r:KT H kvs xs) (k:List Key) {b:Addr}{y:V}{u:Value}(hb:H b=some (.tup (k.map kV))) (ry:RelV y u) :
  KT H (putK kvs k y) (storedH xs k b u):=by
 have e:(kvs.any λkv=>decide (kv.1=k))=(atKey xs k).isSome:=by
  rw[zcj,(r.val k).isSome_eq,Option.isSome_map]
 unfold putK storedH
 rw[e]
 by_cases q:(atKey xs k).isSome=true
 ·rw[if_pos q,if_pos q];exact r.repl k ry
 ·rw[if_neg q,if_neg q];exact Paired.snoc r ⟨rfl,hb,ry⟩
theorem KT.keeps {H H':Hp}{kvs:List (List Key × V)}{xs:List (List Key × Addr × Value)}(r:KT H kvs xs) (ht:∀ b ys,H b=some (.tup ys)→H' b=some (.tup ys)):KT H' kvs xs:=
 Paired.mapP r λ_ _ z=>⟨z.1,ht _ _ z.2.1,z.2.2⟩
section
variable {P : Program} {w : World} {H : Hp} {h : Heap} {a : Addr}
theorem zm1 {u:HO}(ok:HOk P w H h) (e:Rd H a u):zbL P w H h a u:=e.ok ok
theorem zhd {kvs:List (Key × V)}(ok:HOk P w H h) (e:Rd H a (.dK kvs)):kvs.length≤sizeLine∧(a == sysModules)=false∧∃ vs,KV kvs vs∧h.DictOf (zbj P w) a vs:=
 show zbL P w H h a (.dK kvs) from zm1 ok e
theorem zjp {kvs:List (Key × V)}(ok:HOk P w H h) (e:H a=some (.dK kvs)):kvs.length≤sizeLine∧(a == sysModules)=false∧∃ vs,KV kvs vs∧h.DictOf (zbj P w) a vs:=zhd ok (.inl e)
theorem zgn {ks:List Key}(ok:HOk P w H h) (e:H a=some (.tup (ks.map kV))):(tupleKind (zbj P w)).is h ks a:=by
 obtain⟨_,its,r,o,h1,h2,n,h3⟩:=(show zbL P w H h a (.tup (ks.map kV)) from ok a _ e)
 exact⟨o,its.toArray,n,h1,h2,h3,by simpa using zgl r⟩
theorem zim {kvs:List (List Key × V)}(ok:HOk P w H h) (e:Rd H a (.dT kvs)):kvs.length≤sizeLine∧(a == sysModules)=false∧
  ∃ xs,KT H kvs xs∧h.DictOfH (tupleKind (zbj P w)) a xs:=by
 obtain⟨z,y,xs,r,o,es,ep,h1,h2,h3,h4,h5⟩:=(show zbL P w H h a (.dT kvs) from zm1 ok e)
 refine⟨z,y,xs,r,o,es,ep,h1,h2,h3,h4,λx hx=>?_,h5⟩
 have all:∀ {l:List (List Key × V)}{m:List (List Key × Addr × Value)},KT H l m→∀ x∈m,(tupleKind (zbj P w)).is h x.1 x.2.1:=by
  intro l m q
  induction q with
  | nil=>intro x hx;exact nomatch hx
  | @cons p q ps qs hq t ih=>
   intro x hx
   rcases List.mem_cons.mp hx with e | hx
   ·subst e
    exact zgn ok (by rw[←hq.1];exact hq.2.1)
   ·exact ih x hx
 exact all r x hx
theorem dt_of {kvs:List (List Key × V)}(ok:HOk P w H h) (e:H a=some (.dT kvs)):kvs.length≤sizeLine∧(a == sysModules)=false∧
  ∃ xs,KT H kvs xs∧h.DictOfH (tupleKind (zbj P w)) a xs:=zim ok (.inl e)
end

def DGet (H:Hp) (a:Addr) (y:V) (r:Option V):Prop:=
 (∃ kvs k,Rd H a (.dK kvs)∧y=kV k∧r=valV kvs k)∨∃ kvs k b,Rd H a (.dT kvs)∧y=.ref b∧H b=some (.tup (k.map kV))∧r=valV kvs k
def DPut (H:Hp) (a:Addr) (y v:V) (H':Hp):Prop:=
 (∃ kvs k,H a=some (.dK kvs)∧y=kV k∧kvs.length<sizeLine∧H'=upd H a (.dK (putK kvs k v)))∨
 ∃ kvs k b,H a=some (.dT kvs)∧y=.ref b∧H b=some (.tup (k.map kV))∧kvs.length<sizeLine∧H'=upd H a (.dT (putK kvs k v))
theorem DGet.k {H:Hp}{a:Addr}{kvs:List (Key × V)}{k:Key}(e:H a=some (.dK kvs)):DGet H a (kV k) (valV kvs k):=.inl ⟨kvs,k,.inl e,rfl,rfl⟩
theorem DPut.k {H:Hp}{a:Addr}{kvs:List (Key × V)}{k:Key}{v:V}(e:H a=some (.dK kvs)) (hl:kvs.length<sizeLine):DPut H a (kV k) v (upd H a (.dK (putK kvs k v))):=.inl ⟨kvs,k,e,rfl,hl,rfl⟩
section
variable {X : Cx} {pins : List (Addr × Obj)} {σ : St} {H : Hp} {s : Shared} {a : Addr} {y v : V} {u r : Value} {o : Option V} {A : Around} {E : Value → Shared → Prop}

theorem Inv.big (I:Inv X pins σ H s):sysModules<s.heap.objs.size:=by
 have h:mainGlobals<s.heap.objs.size:=(I.mod.glob.keeps I.bk).lt
 exact Nat.lt_trans (by decide) h
theorem zjq {Q:Value→Shared→Prop}(hu:A.units+1<cLine) (I:Inv X pins σ H s) (g:DGet H a y (some v)) (ry:RelV y u) (h:∀ w' s',Inv X pins σ H s'→RelV v w'→Q w' s') :
  wpAny (model X.prog X.w) A (getItem (.ref a) u) Q E s:=by
 rcases g with ⟨kvs,k,e,ey,l⟩ | ⟨kvs,k,b,e,ey,eb,l⟩
 ·subst ey
  obtain⟨z,hd,vs,rel,dd⟩:=zhd I.hok e
  obtain⟨w',hw,rw'⟩:=RelO.some_of (v:=v) (o:=valueAt vs k) (by rw[l];exact rel.val k)
  exact wpAny_getItem_of (zgk ry) dd.mapOf hw (h w' _ (I.tok _) rw')
 ·subst ey
  cases (show u=Value.ref b from ry)
  obtain⟨z,hd,xs,rel,dd⟩:=zim I.hok e
  obtain⟨w',hw,rw'⟩:=RelO.some_of (v:=v) (o:=(atKey xs k).map (·.2)) (by rw[l];exact rel.val k)
  obtain⟨p,hp,hp2⟩:=zme.mp hw
  refine wpAny_getItem_heap (tupleKind_room_in1 hu) (zgn I.hok eb) dd hp ?_
  rw[hp2]
  exact h w' _ (I.tok _) rw'
theorem zlQ {Q:Value→Shared→Prop}(hu:A.units+1<cLine) (I:Inv X pins σ H s) (g:DGet H a y o) (ry:RelV y u) (h:∀ s',Inv X pins σ H s'→Q (.bool (!o.isSome)) s') :
  wpAny (model X.prog X.w) A (compareOp .NotIn u (.ref a)) Q E s:=by
 rcases g with ⟨kvs,k,e,ey,l⟩ | ⟨kvs,k,b,e,ey,eb,l⟩
 ·subst ey
  obtain⟨z,hd,vs,rel,dd⟩:=zhd I.hok e
  refine wpAny_notIn_of (zgk ry) hd dd.mapOf ?_
  rw[←(rel.val k).isSome_eq,←l]
  exact h _ (I.tok _)
 ·subst ey
  cases (show u=Value.ref b from ry)
  obtain⟨z,hd,xs,rel,dd⟩:=zim I.hok e
  refine wpAny_notIn_heap (tupleKind_room_in1 hu) (zgn I.hok eb) hd dd ?_
  have q:=(rel.val k).isSome_eq
  rw[Option.isSome_map] at q
  rw[←q,←l]
  exact h _ (I.tok _)
theorem zeC {h':Heap}{t':Nat}{ob:HO}(I:Inv X pins σ H s) (mu:Mut (H a)) (hs:Heap.SameBut a s.heap h') (he:∃ q,h'.get? a=some q) (new:zbL X.prog X.w (upd H a ob) h' a ob) :
  Inv X pins σ (upd H a ob) {s with heap:=h',toks:=t'}:=
 I.write (x:=a) (e:=a) mu (.inl rfl) (λb q hb z=>(hs.2 b hb).trans z) he new
theorem zhO {P:Program}{w:World}{H':Hp}{h':Heap}{kvs:List (Key × V)}{vs:List (Key × Value)}(z:kvs.length≤sizeLine) (hd:(a == sysModules)=false) (rel:KV kvs vs) (dd:h'.DictOf (zbj P w) a vs) :
  zbL P w H' h' a (.dK kvs):=⟨z,hd,vs,rel,dd⟩
theorem zjr {H':Hp}{Q:Unit→Shared→Prop}(hu:A.units+1<cLine) (I:Inv X pins σ H s) (g:DPut H a y v H') (ry:RelV y u) (rv:RelV v r) (h:∀ s',Inv X pins σ H' s'→Q () s') :
  wpAny (model X.prog X.w) A (setItem (.ref a) u r) Q E s:=by
 rcases g with ⟨kvs,k,e,ey,l,eH⟩ | ⟨kvs,k,b,e,ey,eb,l,eH⟩
 ·subst ey eH
  obtain⟨z,hd,vs,rel,dd⟩:=zjp I.hok e
  have hz:vs.length≤sizeLine:=by rw[←rel.length];exact z
  have hl:(putK kvs k v).length≤sizeLine:=by have:=zdA kvs k v;omega
  refine wpAny_setItem_pairs (hsz:=hz) (zgk ry) dd λh' dd' hs=>h _ ?_
  have he:∃ q,h'.get? a=some q:=let ⟨q,_,_,hq,_⟩:=dd';⟨q,hq⟩
  exact zeC I (by rw[e];exact True.intro) hs he (zhO hl hd (rel.put k rv) dd')
 ·subst ey eH
  cases (show u=Value.ref b from ry)
  obtain⟨z,hd,xs,rel,dd⟩:=dt_of I.hok e
  have hz:xs.length≤sizeLine:=by rw[←Paired.length rel];exact z
  have hl:(putK kvs k v).length≤sizeLine:=by have:=zdA kvs k v;omega
  refine wpAny_setItem_heap (hsz:=hz) (tupleKind_room_in1 hu) (zgn I.hok eb) dd λh' dd' hs=>h _ ?_
  obtain⟨q,es,ep,hq,h2,h3,h4,_,h5⟩:=dd'
  refine zeC I (by rw[e];exact True.intro) hs ⟨q,hq⟩ ⟨hl,hd,_,(rel.put k eb rv).keeps λc ys ec=>?_,q,es,ep,hq,h2,h3,h4,h5⟩
  rw[zaw (ne_of ec e (λz=>nomatch z))]
  exact ec
end

section
variable {X : Cx} {pins : List (Addr × Obj)} {σ : St} {H : Hp} {s : Shared} {a : Addr} {kvs : List (Key × V)} {k : Key} {u : Value} {A : Around} {E : Value → Shared → Prop}
theorem zm2 {Q:Unit→Shared→Prop}(I:Inv X pins σ H s) (e:H a=some (.dK kvs)) (ry:RelV (kV k) u) (l:(valV kvs k).isSome=true) (h:∀ s',Inv X pins σ (upd H a (.dK (zb0 kvs k))) s'→Q () s') :
  wpAny (model X.prog X.w) A (delItem (.ref a) u) Q E s:=by
 obtain⟨z,hd,vs,rel,dd⟩:=zjp I.hok e
 refine wpAny_delItem_slot dd.typeIs (by decide) PySem.F.slot_dict_delitem
  (call_meetsIn PySem.F.slot_dict_delitem dd.typeIs PySem.F.entry_dict_delitem (PySem.F.args_dict_delitem_2 _ _) (meets_dict_delitem_pairs (zbj X.prog X.w) a (zgk ry)) ⟨vs,dd,by rw[←rel.length];exact z,by rw[←(rel.val k).isSome_eq];exact l,λh' dd' hs=>h _ ?_⟩)
 have he:∃ q,h'.get? a=some q:=let ⟨q,_,_,hq,_⟩:=dd';⟨q,hq⟩
 exact zeC I (by rw[e];exact True.intro) hs he (zhO (Nat.le_trans (zhN kvs k) z) hd (rel.drop k) dd')
theorem d_pop {v:V}{more:List Value}{Q:Value→Shared→Prop}(I:Inv X pins σ H s) (e:H a=some (.dK kvs)) (ry:RelV (kV k) u) (l:valV kvs k=some v) (hm:more=[]∨∃ x,more=[x])
  (h:∀ w' s',Inv X pins σ (upd H a (.dK (zb0 kvs k))) s'→RelV v w'→Q w' s'):wpAny (model X.prog X.w) A (call (.builtin "dict.pop") (.ref a::u::more)) Q E s:=by
 obtain⟨z,hd,vs,rel,dd⟩:=zjp I.hok e
 obtain⟨w',hw,rw'⟩:=RelO.some_of (v:=v) (o:=valueAt vs k) (by rw[←l];exact rel.val k)
 have hp:(keyPart u).isSome=true:=by
  cases k with
  | inl i=>obtain⟨t,q⟩:=(show ∃ t,u=Value.int i t from ry);subst q;rfl
  | inr x=>obtain⟨t,q⟩:=(show ∃ t,u=Value.str x t from ry);subst q;rfl
 have ha:argsOk "dict.pop" ⟨.ref a::u::more,[]⟩:=by
  rcases hm with q | ⟨x,q⟩
  ·subst q;exact PySem.F.args_dict_pop_2 _ _
  ·subst q;exact PySem.F.args_dict_pop_3 _ _ _
 refine call_meetsIn PySem.F.slot_dict_pop dd.typeIs PySem.F.entry_dict_pop ha (meets_dict_pop_there (zbj X.prog X.w) a (zgk ry) more hm hp)
  ⟨vs,w',dd,by rw[←rel.length];exact z,hw,λh' dd' hs=>h w' _ ?_ rw'⟩
 have he:∃ q,h'.get? a=some q:=let ⟨q,_,_,hq,_⟩:=dd';⟨q,hq⟩
 exact zeC I (by rw[e];exact True.intro) hs he (zhO (Nat.le_trans (zhN kvs k) z) hd (rel.drop k) dd')
theorem d_len {Q:Value→Shared→Prop}(I:Inv X pins σ H s) (e:Rd H a (.dK kvs)) (h:∀ t s',Inv X pins σ H s'→Q (.int kvs.length t) s'):wpAny (model X.prog X.w) A (call (.builtin "len") [.ref a]) Q E s:=by
 obtain⟨z,hd,vs,rel,dd⟩:=zhd I.hok e
 refine call_len_dict hd dd (by rw[←rel.length];rw[sizeLine_eq] at z;omega) ?_
 rw[←rel.length]
 exact h _ _ (I.tok _)
end


def NoSl (i:Expr):Prop:=∀ ov iv,subscripted i false ov iv=operate [ov,iv] (getItem ov iv)
theorem zlR {prog:Program}{w:World}{A:Around}{E:Value→Shared→Prop}{s:Shared}{env:Env}{value slice:Expr}{pos:Pos}{T id:String}{Q:Value→Shared→Prop}
  (hl:typeLookup (.type T) "__getitem__"=pure (some (.builtin id))) (hs:NoSl slice)
  (h:wpAny (model prog w) A (eval value env) (λo s₁=>wpAny (model prog w) A (eval slice env) (λi s₂=>s₂.TypeIs o T∧wpAny (model prog w) A (getItem o i) Q E s₂) E s₁) E s) :
  wpAny (model prog w) A (eval (.Subscript value slice pos) env) Q E s:=by
 refine Subscript_ (wpAny_mono h (λo s₁ h₁=>wpAny_mono h₁ (λi s₂ h₂=>?_) λ_ _ x=>x) λ_ _ x=>x)
 obtain⟨hT,h₂⟩:=h₂
 unfold subscriptTail
 refine wpAny_bind ?_
 rw[getitemInPython_of_ne hT.not_modules]
 refine wpAny_bind (wpAny_specialOf hT hl ?_)
 have fin:wpAny (model prog w) A (subscripted slice false o i) (λr s₃=>wpAny (model prog w) A (letTemporaryGo value o r >>= λ_=>pure r) Q E s₃) E s₂:=by
  rw[hs o i]
  exact wpAny_operating (wpAny_mono h₂ (λr s₃ h₃=>wpAny_bind (wpAny_letTemporaryGo (wpAny_pure h₃))) λ_ _ x=>x)
 first
  | exact wpAny_pure (wpAny_bind fin)
  | exact wpAny_bind (wpAny_pure (wpAny_bind fin))
  | exact wpAny_bind fin
theorem zhe {X:Cx}{pins:List (Addr × Obj)}{σ:St}{H:Hp}{s:Shared}{a:Addr}{y:V}{o:Option V}(I:Inv X pins σ H s) (g:DGet H a y o):s.TypeIs (.ref a) "dict":=by
 rcases g with ⟨kvs,k,e,_,_⟩ | ⟨kvs,k,b,e,_,_,_⟩
 ·obtain⟨_,_,vs,_,dd⟩:=zhd I.hok e
  exact dd.typeIs
 ·obtain⟨_,_,xs,_,dd⟩:=zim I.hok e
  exact dd.typeIs
def zm3 (td ty:TE):TE:=λσ H Q=>td σ H λx H1=>ty σ H1 λy H2=>∃ a v,x=.ref a∧DGet H2 a y (some v)∧Q v H2
def zjs (ty td:TE):TE:=λσ H Q=>ty σ H λy H1=>td σ H1 λx H2=>∃ a o,x=.ref a∧DGet H2 a y o∧Q (.bl (!o.isSome)) H2
def zm4 (td ty tv:TE):TS:=λD σ H=>tv σ H λv H1=>td σ H1 λx H2=>ty σ H2 λy H3=>∃ a H4,x=.ref a∧DPut H3 a y v H4∧D.nx σ H4
section
variable {X : Cx} {o i e value : Expr} {pos pos' tpos : Pos} {td ty tv : TE}
theorem zfD (hu:X.A.units+1<cLine) (ho:PE X o td) (hi:PE X i ty) (hs:NoSl i):PE X (.Subscript o i pos) (zm3 td ty):=by
 intro pins s σ H Q I h
 refine zlR PySem.F.slot_dict_getitem.lookup hs (thn (ho pins s σ H _ I h) λu s1 ⟨x,H1,I1,rx,q1⟩=>thn (hi pins s1 σ H1 _ I1 q1) λiv s2 ⟨y,H2,I2,ry,a,v,ex,g,q2⟩=>?_)
 subst ex
 obtain rfl:u=Value.ref a:=rx
 exact⟨zhe I2 g,zjq hu I2 g ry λw' s3 I3 rw'=>⟨v,H2,I3,rw',q2⟩⟩
theorem zjt (hu:X.A.units+1<cLine) (hi:PE X i ty) (ho:PE X o td):PC X .NotIn i o (zjs ty td):=by
 intro pins s σ H Q I h
 refine thn (hi pins s σ H _ I h) λiv s1 ⟨y,H1,I1,ry,q1⟩=>thn (ho pins s1 σ H1 _ I1 q1) λu s2 ⟨x,H2,I2,rx,a,ov,ex,g,q2⟩=>?_
 subst ex
 obtain rfl:u=Value.ref a:=rx
 exact zlQ hu I2 g ry λs3 I3=>⟨.bl (!ov.isSome),H2,I3,rfl,q2⟩
theorem zhf (hu:X.A.units+1<cLine) (ho:PE X o td) (hi:PE X i ty) (hv:PE X value tv) (hs:swapsWith value (some (.Subscript o i pos')) pos.line X.env=pure false) :
  PS X (.Assign [.Subscript o i pos'] value pos) (zm4 td ty tv):=by
 intro pins s σ H D I h
 refine wpAny_Assign_Subscript (thn (hv pins s σ H _ I h) λr s1 ⟨v,H1,I1,rv,q1⟩=>thn (ho pins s1 σ H1 _ I1 q1) λu s2 ⟨x,H2,I2,rx,q2⟩=>thn (hi pins s2 σ H2 _ I2 q2) λiv s3 ⟨y,H3,I3,ry,a,H4,ex,g,q3⟩=>?_) hs
 subst ex
 obtain rfl:u=Value.ref a:=rx
 exact zjr hu I3 g ry rv λs4 I4=>⟨σ,H4,I4,q3⟩
end


theorem zhP {P:Program}{w:World}{H:Hp}(h:Heap) (hb:sysModules<h.objs.size):zbL P w H (h.push {cls:=.type "dict",data:=.dict #[]}) h.objs.size (.dK []):=
 ⟨Nat.zero_le _,beq_eq_false_iff_ne.mpr (Ne.symm (Nat.ne_of_lt hb)),[],.nil,Heap.DictOf.new h⟩
def zlb:TE:=λ_ H Q=>∀ p,H p=none→Q (.ref p) (upd H p (.dK []))
section
variable {X : Cx} {pos : Pos}
theorem zhQ:PE X (.Dict [] [] pos) zlb:=λpins s σ H Q I h=>
 wpAny_Dict_empty ⟨.ref s.heap.objs.size,_,I.laid (a:=s.heap.objs.size) (o:=.dK []) (t':=s.toks) (λ_ _ q=>Heap.get?_push_of_some _ q) (Nat.le_refl _) (zhP s.heap I.big),rfl,h _ (I.hok.fresh (Nat.le_refl _))⟩
end

def zeD:List (TE × TE)→St→Hp→(List (V × V)→Hp→Prop)→Prop
 | [],_,H,Q=>Q [] H
 | (tk,tv)::r,σ,H,Q=>tk σ H λx H1=>tv σ H1 λy H2=>zeD r σ H2 λps H3=>Q ((x,y)::ps) H3
abbrev VV:List (V × V)→List (Value × Value)→Prop:=Paired λp q=>RelV p.1 q.1∧RelV p.2 q.2
def PPs (X:Cx) (pos:Pos) (keys:List (Option Expr)) (values:List Expr) (trs:List (TE × TE)):Prop:=
 ∀ (pins:List (Addr × Obj)) (s:Shared) (σ:St) (H:Hp) (Q:List (V × V)→Hp→Prop),Inv X pins σ H s→zeD trs σ H Q→
  wpAny (model X.prog X.w) X.A (evalPairs (pairTrees keys values X.env pos)) (λvs s'=>∃ ps H',Inv X pins σ H' s'∧VV ps vs∧Q ps H') X.xe s
theorem zd2 {X:Cx}{pos:Pos} : PPs X pos [] [] []:=λpins s σ H Q I h=>pairTrees_nil_walk ⟨[],H,I,.nil,h⟩
theorem zbP {X:Cx}{pos:Pos}{k v:Expr}{ks:List (Option Expr)}{vs:List Expr}{tk tv:TE}{trs:List (TE × TE)}(hk:PE X k tk) (hv:PE X v tv) (hr:PPs X pos ks vs trs) :
  PPs X pos (some k::ks) (v::vs) ((tk,tv)::trs):=λpins s σ H Q I h=>
 pairTrees_cons_walk (thn (hk pins s σ H _ I h) λu s1 ⟨x,H1,I1,rx,q1⟩=>thn (hv pins s1 σ H1 _ I1 q1) λw2 s2 ⟨y,H2,I2,ry,q2⟩=>
  thn (hr pins s2 σ H2 _ I2 q2) λws s3 ⟨ps,H3,I3,rel,q3⟩=>⟨(x,y)::ps,H3,I3,.cons ⟨rx,ry⟩ rel,q3⟩)
def zbz (kvs more:List (Key × V)):List (Key × V):=more.foldl (λacc kv=>putK acc kv.1 kv.2) kvs
theorem KV.merge:∀ {more:List (Key × V)}{rs:List (Key × Value)}{kvs:List (Key × V)}{vs:List (Key × Value)},KV more rs→KV kvs vs→KV (zbz kvs more) (merged vs rs):=by
 intro more rs kvs vs r
 unfold KV at r
 induction r generalizing kvs vs with
 | nil=>intro q;exact q
 | @cons p q ps qs h t ih=>
  intro r0
  have e:KV (putK kvs p.1 p.2) (stored vs q.1 q.2):=by
   have:=r0.put p.1 h.2
   rw[←h.1];exact this
  exact ih e
theorem zdI:∀ (more kvs:List (Key × V)),(zbz kvs more).length≤kvs.length+more.length
 | [],kvs=>by show kvs.length≤kvs.length+0;omega
 | p::r,kvs=>by
  have h1:=zdI r (putK kvs p.1 p.2)
  have h2:=zdA kvs p.1 p.2
  show (zbz (putK kvs p.1 p.2) r).length≤_
  rw[List.length_cons];omega
theorem zfk {P:Program}{w:World} : ∀ {kvs:List (Key × V)}{ws:List (Value × Value)},VV (kvs.map λkv=>(kV kv.1,kv.2)) ws→∃ rs,Carries (zbj P w) ws rs∧KV kvs rs
 | [],_,r=>by rw[List.map_nil] at r;cases r;exact⟨[],True.intro,.nil⟩
 | p::kvs,_,r=>by
  rw[zmc] at r
  cases r with
  | @cons a b as bs h t=>
   obtain⟨rs,c,q⟩:=zfk (P:=P) (w:=w) t
   obtain⟨b1,b2⟩:=b
   exact⟨(p.1,b2)::rs,⟨zgk h.1,rfl,c⟩,.cons ⟨rfl,h.2⟩ q⟩
def zm5 (trs:List (TE × TE)):TE:=λσ H Q=>∀ p,H p=none→zeD trs σ (upd H p (.dK [])) λps H2=>H2 p=some (.dK [])∧∃ kvs:List (Key × V),ps=kvs.map (λkv=>(kV kv.1,kv.2))∧kvs.length≤15∧Q (.ref p) (upd H2 p (.dK (zbz [] kvs)))
theorem zd3 {X:Cx}{pos:Pos}{keys:List (Option Expr)}{values:List Expr}{trs:List (TE × TE)}(h:PPs X pos keys values trs) (hall:keys.all (·.isSome)=true) (hl:keys.length=values.length) (h0:keys≠[])
  (h15:keys.length≤15):PE X (.Dict keys values pos) (zm5 trs):=by
 intro pins s σ H Q I q
 have hn:=I.hok.fresh (Nat.le_refl s.heap.objs.size)
 have I1:=I.laid (a:=s.heap.objs.size) (o:=.dK []) (h':=s.heap.push {cls:=.type "dict",data:=.dict #[]}) (t':=s.toks) (λ_ _ q=>Heap.get?_push_of_some _ q) (Nat.le_refl _) (zhP s.heap I.big)
 refine wpAny_Dict_walk (knd:=zbj X.prog X.w) hall hl h0 h15 (thn (h pins _ σ _ _ I1 (q _ hn)) λws s2 ⟨ps,H2,I2,rel,e,kvs,ep,lk,q2⟩=>?_)
 subst ep
 obtain⟨rs,c,rk⟩:=zfk (P:=X.prog) (w:=X.w) rel
 obtain⟨z,hd,vs0,r0,dd⟩:=zjp I2.hok e
 cases r0
 refine⟨rs,c,dd,λh' dd' hs=>⟨.ref s.heap.objs.size,_,?_,rfl,q2⟩⟩
 have hz:(zbz [] kvs).length≤sizeLine:=by
  have h1:=zdI kvs []
  rw[List.length_nil] at h1
  rw[sizeLine_eq];omega
 have he:∃ q,h'.get? s.heap.objs.size=some q:=let ⟨q,_,_,hq,_⟩:=dd';⟨q,hq⟩
 exact zeC I2 (by rw[e];exact True.intro) hs he (zhO hz hd (rk.merge .nil) dd')
structure M1 (X:Cx) (o:Expr) (m:Str) (apos:Pos) (e:Expr) (cpos:Pos):Prop where
 base:attributeBase o m X.env (eval o X.env)=eval o X.env
 few:((backTo cpos (starEach [e] X.env)).all (λx=>!x.1) && (backToKw cpos (keywordEach [] X.env)).all (λx=>x.1.isSome)
  && decide (([e]:List Expr).length+([]:List Keyword).length+(if ([]:List Keyword).isEmpty then 0 else 1)<30))=true
 line:(apos.endLine == cpos.line)=true
 trees:backTo cpos (starEach [e] X.env)=[(false,eval e X.env)]
structure M2 (X:Cx) (o:Expr) (m:Str) (apos:Pos) (e f:Expr) (cpos:Pos):Prop where
 base:attributeBase o m X.env (eval o X.env)=eval o X.env
 few:((backTo cpos (starEach [e,f] X.env)).all (λx=>!x.1) && (backToKw cpos (keywordEach [] X.env)).all (λx=>x.1.isSome)
  && decide (([e,f]:List Expr).length+([]:List Keyword).length+(if ([]:List Keyword).isEmpty then 0 else 1)<30))=true
 line:(apos.endLine == cpos.line)=true
 trees:backTo cpos (starEach [e,f] X.env)=[(false,eval e X.env),(false,eval f X.env)]
def IsD (H:Hp) (a:Addr):Prop:=(∃ kvs,Rd H a (.dK kvs))∨∃ kvs,Rd H a (.dT kvs)
theorem zlc {X:Cx}{pins:List (Addr × Obj)}{σ:St}{H:Hp}{s:Shared}{a:Addr}(I:Inv X pins σ H s) (d:IsD H a) :
  s.TypeIs (.ref a) "dict" ∧(∀ b,Value.ref a=.ref b→∃ ob,s.heap.get? b=some ob∧ob.dict=none)∧(a == sysModules)=false:=by
 rcases d with ⟨kvs,e⟩ | ⟨kvs,e⟩
 ·obtain⟨_,hd,vs,_,dd⟩:=zhd I.hok e
  refine⟨dd.typeIs,λb q=>?_,hd⟩
  cases q
  obtain⟨ob,_,_,h1,h2,_⟩:=dd
  exact⟨ob,h1,h2.2.1⟩
 ·obtain⟨_,hd,xs,_,dd⟩:=zim I.hok e
  refine⟨dd.typeIs,λb q=>?_,hd⟩
  cases q
  obtain⟨ob,_,_,h1,h2,_⟩:=dd
  exact⟨ob,h1,h2.2.1⟩
section
variable {X : Cx} {pins : List (Addr × Obj)} {σ : St} {H : Hp} {s : Shared} {a : Addr} {y d : V} {u r : Value} {o : Option V} {A : Around} {E : Value → Shared → Prop}
theorem zm6 {Q:Value→Shared→Prop}(hu:A.units+1<cLine) (I:Inv X pins σ H s) (g:DGet H a y o) (ry:RelV y u) (rd:RelV d r) (h:∀ w' s',Inv X pins σ H s'→RelV (o.getD d) w'→Q w' s') :
  wpAny (model X.prog X.w) A (call (.builtin "dict.get") [.ref a,u,r]) Q E s:=by
 rcases g with ⟨kvs,k,e,ey,l⟩ | ⟨kvs,k,b,e,ey,eb,l⟩
 ·subst ey
  obtain⟨z,hd,vs,rel,dd⟩:=zhd I.hok e
  refine call_meetsIn PySem.F.slot_dict_get dd.typeIs PySem.F.entry_dict_get (PySem.F.args_dict_get_3 _ _ _) (meets_dict_get_default (zbj X.prog X.w) a (zgk ry) hd r) ⟨_,dd.mapOf,h _ _ (I.tok _) ?_⟩
  rw[l]
  exact (rel.val k).getD rd
 ·subst ey
  cases (show u=Value.ref b from ry)
  obtain⟨z,hd,xs,rel,dd⟩:=zim I.hok e
  refine call_meetsIn PySem.F.slot_dict_get dd.typeIs PySem.F.entry_dict_get (PySem.F.args_dict_get_3 _ _ _) (meetsH_dict_get_default (tupleKind (zbj X.prog X.w)) a b hd r) ⟨tupleKind_room_in1 hu,k,xs,zgn I.hok eb,dd,h _ _ (I.tok _) ?_⟩
  rw[l]
  exact (rel.val k).getD rd
end

def zld (td ty tx:TE):TE:=λσ H Q=>td σ H λx H1=>∃ a,x=.ref a∧IsD H1 a∧ty σ H1 λy H2=>tx σ H2 λz H3=>∃ o,DGet H3 a y o∧Q (o.getD z) H3
def zle (td ty:TE):TE:=λσ H Q=>td σ H λx H1=>∃ a,x=.ref a∧IsD H1 a∧ty σ H1 λy H2=>∃ kvs k v,H2 a=some (.dK kvs)∧y=kV k∧valV kvs k=some v∧Q v (upd H2 a (.dK (zb0 kvs k)))
section
variable {X : Cx} {o e f : Expr} {apos cpos : Pos} {td ty tx : TE}
theorem zks (hu:X.A.units+1<cLine) (ho:PE X o td) (he:PE X e ty) (hf:PE X f tx) (m:M2 X o "get" apos e f cpos):PE X (.Call (.Attribute o "get" apos) [e,f] [] cpos) (zld td ty tx):=by
 intro pins s σ H Q I h
 refine wpAny_Call_method m.base m.few m.line PySem.F.plainAttrs_dict PySem.F.slot_dict_get PySem.F.type_dict_get (thn (ho pins s σ H _ I h) λu s1 ⟨x,H1,I1,rx,a,ex,d,q1⟩=>?_)
 subst ex
 obtain rfl:u=Value.ref a:=rx
 obtain⟨t1,t2,_⟩:=zlc I1 d
 refine⟨t1,t2,?_⟩
 rw[m.trees]
 refine Calls.callWith_builtin rfl (Calls.evalArgs_plain (Calls.spliced_cons (thn (he pins s1 σ H1 _ I1 q1) λiv s2 ⟨y,H2,I2,ry,q2⟩=>
  Calls.spliced_cons (thn (hf pins s2 σ H2 _ I2 q2) λfv s3 ⟨z,H3,I3,rz,ov,g,q3⟩=>Calls.spliced_nil ?_))))
 exact zm6 hu I3 g ry rz λw' s4 I4 rw'=>⟨_,H3,I4,rw',q3⟩
theorem zkt (ho:PE X o td) (he:PE X e ty) (m:M1 X o "pop" apos e cpos):PE X (.Call (.Attribute o "pop" apos) [e] [] cpos) (zle td ty):=by
 intro pins s σ H Q I h
 refine wpAny_Call_method m.base m.few m.line PySem.F.plainAttrs_dict PySem.F.slot_dict_pop PySem.F.type_dict_pop (thn (ho pins s σ H _ I h) λu s1 ⟨x,H1,I1,rx,a,ex,d,q1⟩=>?_)
 subst ex
 obtain rfl:u=Value.ref a:=rx
 obtain⟨t1,t2,_⟩:=zlc I1 d
 refine⟨t1,t2,?_⟩
 rw[m.trees]
 refine Calls.callWith_builtin rfl (Calls.evalArgs_plain (Calls.spliced_cons (thn (he pins s1 σ H1 _ I1 q1) λiv s2 ⟨y,H2,I2,ry,kvs,k,v,ea,ey,l,q2⟩=>Calls.spliced_nil ?_)))
 subst ey
 exact d_pop I2 ea ry l (.inl rfl) λw' s3 I3 rw'=>⟨v,_,I3,rw',q2⟩
end

section
variable {X : Cx} {pins : List (Addr × Obj)} {σ : St} {H : Hp} {s : Shared} {a : Addr} {kvs : List (Key × V)} {A : Around} {E : Value → Shared → Prop}
end


section
variable {X : Cx} {pins : List (Addr × Obj)} {σ : St} {H : Hp} {s : Shared} {a : Addr} {y : V} {u : Value} {A : Around} {E : Value → Shared → Prop}
end
end L2

namespace Att
open PySem PySem.W PySem.Calls PyProof.Rows

theorem zeE {P:Params}{h:Heap} : ∀ (ns:List Int) (vs:List Value),WellAll P h vs (ns.map WData.int)→IntsAre vs ns:=by
 intro ns
 induction ns with
 | nil=>
  intro vs w
  rw[List.map_nil] at w
  cases w
  exact .nil
 | cons n ns ih=>
  intro vs w
  rw[zmc] at w
  cases w with
  | cons a b=>
   cases a
   exact .cons _ _ (ih _ b)
theorem zju {l:OpenLaw}{n:Nat}(hn:l.most=some n) {P:Params}{h:Heap}{args:List WData}{vals:List Value}
  (hpre:l.row.toRowW.claim.pre args=true) (hwl:WellAll P h vals args) :
  ∃ a vs ns,vals=[Value.ref a]∧args=[WData.list (ns.map WData.int)]∧h.get? a=some {cls:=.type "list",data:=.seq vs.toArray}∧IntsAre vs ns∧ns.length≤n:=by
 have hsh:WShape.hasAll [] args [.list .int]=true:=(pre_splitW hpre).1
 have hc:l.pre.holds [] {args:=args}=true:=(pre_splitW hpre).2
 obtain⟨d,r,rfl,h1,h2⟩:=hasAllW_cons hsh
 obtain rfl:=hasAllW_nil h2
 obtain⟨xs,rfl,h3⟩:=hasW_list h1
 obtain⟨ns,rfl⟩:=items_int h3
 have hlen:ns.length≤n:=by
  unfold OpenLaw.pre at hc
  have h4:(WTm.not (.lt (.lit (.int (n:Int))) (.len (.arg 0)))).holds [] {args:=[.list (ns.map .int)]}=true:=by
   have h4:=(holds_andW hc).1
   rw[hn] at h4
   exact h4
  have h5:=condW_of h4 (w_not (w_lt w_lit (w_len_list (w_arg rfl))))
  rw[zlm] at h5
  refine Nat.le_of_not_lt λq=>?_
  have q':(n:Int)<((ns.length:Nat):Int):=by omega
  first
   | (rw[decide_eq_true q'] at h5;exact absurd h5 (by decide))
   | (simp at h5;omega)
 cases hwl with
 | cons w1 w2=>
  cases w2
  cases w1 with
  | list ho hall=>exact⟨_,_,ns,rfl,rfl,ho,zeE ns _ hall,hlen⟩
theorem zjv (l:OpenLaw) (args:List WData):l.row.toRowW.claim.post args (.bool true) args=true:=
 postW_of (r:=l.row.toRowW) (X:=(true == true))
  (show WShape.has [] (.bool true) .bool=true by first | rfl | decide | simp[WShape.has,WShape.arms,WShape.armsAll])
  (show (WTm.eq .res (.lit (.bool true))).value [] {args:=args,res:=some (.bool true),after:=args}=some (.bool (true == true)) from w_eq_bool (w_res rfl) w_lit) rfl
theorem attach_call {l:OpenLaw}{n:Nat}{q:Program}{loose:List Str}{XP:(Str→Option Value)→Heap→Prop}{YP:World→Heap→Prop}{d:DefRec}
  (hn:l.most=some n) (hdf:d.params.defaults=[])
  (call:∀ (w:World) (s₀ s₁:Shared) (mg mb:Str→Option Value) (fa:Addr) (o:Obj) (pm cd doc:Value) (a:Addr) (vs:List Value) (ns:List Int),
   Ground q loose [] XP w s₀ mg mb s₁.heap→YP w s₁.heap→
   s₁.heap.get? fa=some o→o.data=.func (docDef d.name d.params d.body d.scope pm cd doc)→s₁.heap.CodeRec cd d.name→mg d.name=some (.ref fa)→
   s₁.heap.get? a=some {cls:=.type "list",data:=.seq vs.toArray}→IntsAre vs ns→ns.length≤n→s₁.gens=#[]→
   codeAny (model l.prog w) callerA (.call (.ref fa) ⟨[.ref a],[]⟩) (λr s'=>r=.ok (.ret (.bool true))∧OldK s₁.heap s'.heap∧s'.os=s₁.os∧AllBare s'.gens) s₁) :
  WalkO q loose XP YP l.row.toRowW d [] (λf vs=>PySem.call f vs):=by
 intro w s₀ s₁ mg mb G Y fa o pm cd doc dV kV ho hd hcd hD hmg hg args vals as hpre hlay hrd hwl hlo
 obtain rfl:dV=.none:=Dflts.none hD hdf
 obtain rfl:kV=.none:=Dflts.noKw hD
 obtain⟨a,vs,ns,rfl,rfl,hobj,hints,hlen⟩:=zju hn hpre hwl
 refine enter_call (codeAny_mono (call w s₀ s₁ mg mb fa o pm cd doc a vs ns G Y ho (fd_plain hd) hcd hmg hobj hints hlen hg) λr s' hq=>?_)
 obtain⟨rfl,h2,h3,h4⟩:=hq
 exact⟨.inl ⟨.bool true,.bool true,[],rfl,λ_=>rfl,.bool true,zjv l _,λ_=>⟨List.Pairwise.nil,λ_ hm=>(nomatch hm)⟩⟩,h2,h3,h4⟩
section
variable {prog : Program} {w : World} {A : Around} {E : Value → Shared → Prop} {s : Shared} {K : Frag}

end
end Att

namespace L2
open PySem PySem.Spec PyProof.Rows

theorem zeF:∀ {vs:List Value}{ns:List Int},IntsAre vs ns→Vals (ns.map V.int) vs
 | _,_,.nil=>.nil
 | _,_,.cons n t h=>.cons ⟨t,rfl⟩ (zeF h)
def Only (H:Hp):Prop:=∀ b,H b=none∨∃ o xs,H b=some (.frz o (.lst xs))
theorem zku {P:Program}{w:World}{K:Fg}{mg mb:Str→Option Value}{CX:CXT}{k:Nat}{fa a:Addr}{fd:FuncData}{x:Str}{sp:Sp}{s₁:Shared}{vs:List Value}{ns:List Int}
  (KX:K.In s₁.heap) (hns:s₁.heap.Ns mainGlobals mg) (hb:s₁.heap.Ns builtinsNs mb) (hbb:∀ x:Str,x≠ "__name__" →mb x=bootBuiltins x) (hlim:s₁.heap.NoLimit) (hg:s₁.gens=#[])
  (ha:s₁.heap.get? a=some {cls:=.type "list",data:=.seq vs.toArray}) (hi:IntsAre vs ns) (hl:ns.length≤sizeLine) (hr:Room k callerA)
  (F:∀ base:Heap,K.In base→base.Ns mainGlobals mg→FnOk P w K mg base CX k fa fd [x] sp) (hbind:∀ (s:Shared) (u:Value),BindsTo s fd ⟨[u],[]⟩ [(x,u)])
  (hsp:∀ H:Hp,Only H→SqL K H a (ns.map V.int)→sp [.ref a] H (λv _=>v=.bl true) λ_ _ _=>False)
  (hCX:∀ H e s',CX [] H s₁ (λ_ _ _=>False) e s'→False) :
  codeAny (model P w) callerA (.call (.ref fa) ⟨[.ref a],[]⟩) (λr s'=>r=.ok (.ret (.bool true))∧OldK s₁.heap s'.heap∧s'.os=s₁.os∧AllBare s'.gens) s₁:=by
 have rv:=zeF hi
 have lenV:=hi.length
 -- from an abstract heap in which nothing but the script may be tracked
 have core:∀ H:Hp,Only H→SqL K H a (ns.map V.int)→HOk P w H s₁.heap→(∀ b,H b≠none→b=a)→(H a≠none→K.lookup a=none)→
   codeAny (model P w) callerA (.call (.ref fa) ⟨[.ref a],[]⟩) (λr s'=>r=.ok (.ret (.bool true))∧OldK s₁.heap s'.heap∧s'.os=s₁.os∧AllBare s'.gens) s₁:=by
  intro H hO hS hok hA hK
  have base_of:∀ {b:Addr}{o:Obj},s₁.heap.get? b=some o→H b=none→(hidT s₁.heap H).get? b=some o:=λe n=>zki e n
  have noA:∀ {b:Addr}{o:Obj}{es:Array DictEntry}{ep:Nat},s₁.heap.get? b=some o→o.data=.dict es ep→H b=none:=λ{b o es ep} e d=>by
   cases q:H b with
   | none=>rfl
   | some u=>
    have e':b=a:=hA b (by rw[q];simp)
    subst e'
    rw[ha] at e;cases e
    have d':Data.seq vs.toArray _=Data.dict es ep:=d
    cases d'
  have nsK:∀ {b:Addr}{m:Str→Option Value},s₁.heap.Ns b m→(hidT s₁.heap H).Ns b m:=λ{b m} ⟨o,es,ep,e,d,r⟩=>⟨o,es,ep,base_of e (noA e d),d,r⟩
  have hKb:K.In (hidT s₁.heap H):=λb o e=>base_of (KX b o e) (by
   cases q:H b with
   | none=>rfl
   | some u=>
    have e':b=a:=hA b (by rw[q];simp)
    subst e'
    rw[hK (by rw[q];simp)] at e;cases e)
  have hM:Mod K mg (hidT s₁.heap H):=⟨hKb,nsK hns,⟨mb,nsK hb,hbb⟩,let ⟨mc,h1,h2⟩:=hlim;⟨mc,nsK h1,h2⟩⟩
  have e0:Env0 P w K mg (hidT s₁.heap H) callerA [] s₁ H:=⟨rfl,hM,λb o e=>zlz e,Nat.le_of_eq (zi0 _ _),trivial,λb hb=>absurd (show b∈([]:List Addr) from hb) (by simp),hok,.of_eq hg⟩
  refine codeAny_mono ((F _ hKb (nsK hns)).run callerA [] s₁ H ⟨[.ref a],[]⟩ [.ref a] [.ref a] _ _ hr e0 (hbind s₁ (.ref a)) (.cons rfl .nil) (hsp H hO hS)) λr s' h=>?_
  cases r with
  | error e=>exact (hCX H e s' h).elim
  | ok fl=>
   cases fl with
   | next=>exact False.elim h
   | brk=>exact False.elim h
   | cont=>exact False.elim h
   | ret u=>
    obtain⟨v,H',os,bare,un,hok',r',q⟩:=h
    have q':v=.bl true:=q
    subst q'
    obtain rfl:u=Value.bool true:=r'
    refine⟨rfl,OldK.of_keep λb o e=>?_,os,bare⟩
    cases q:H b with
    | none=>exact un.keep b o e q (by intro z;exact absurd (show b∈([]:List Addr) from z) (by simp)) (by simp)
    | some u=>
     rcases hO b with z | ⟨ob,xs,z⟩
     ·rw[q] at z;cases z
     ·have z2:=un.frzs b ob _ z
      obtain⟨e1,_⟩:=hok b _ z
      obtain⟨e2,_⟩:=hok' b _ z2
      rw[e] at e1;cases e1
      exact e2
 cases hk:K.lookup a with
 | some o=>
  -- the script is one of the module's own objects
  have e:=KX a o hk
  rw[ha] at e
  cases e
  refine core (λ_=>none) (λ_=>.inl rfl) (.inr ⟨_,vs.toArray,_,hk,rfl,rfl,rfl,by rw[zst,lenV];exact hl,by simpa using rv⟩) (λb u z=>by have z':(none:Option HO)=some u:=z;cases z') (λb z=>absurd rfl z) λz=>absurd rfl z
 | none=>
  refine core (λb=>if b=a then some (.frz {cls:=.type "list",data:=.seq vs.toArray} (.lst (ns.map V.int))) else none) (λb=>?_) (.inl (.inr ⟨{cls:=.type "list",data:=.seq vs.toArray},if_pos rfl⟩)) (λb u z=>?_) (λb z=>?_) λ_=>hk
  ·by_cases hb:b=a
   ·exact .inr ⟨_,_,if_pos hb⟩
   ·exact .inl (if_neg hb)
  ·by_cases hb:b=a
   ·have z':=(if_pos hb).symm.trans z
    cases z'
    subst hb
    exact⟨ha,by rw[zlm];exact hl,vs,_,rv,ha⟩
   ·have z':=(if_neg hb).symm.trans z
    cases z'
  ·by_cases hb:b=a
   ·exact hb
   ·exact absurd (if_neg hb) z
end L2

namespace L2
open PySem PySem.Spec PyProof.Rows

end L2



namespace L2
open PySem PySem.Spec PyProof.Rows


abbrev CX0:CXT:=λ_ _ _ _ _ _=>False
abbrev E0:XK:=λ_ _ _=>False
theorem zm7 {X:Cx} : zeA CX0 X E0:=λ_ _ _ _ _ _ _ h=>h.elim
structure Fun (K:Fg) (x qual:Str) (st:Stmt) (f:Addr) (fd:FuncData):Prop where
 ex:∃ (oc:Value) (od:Option Addr) (kV doc pm:Value) (an:Option Addr) (cdv ct:Value) (osl:Array (Option Value)),
  fd=PySem.W.fnOf x qual (zay st) (zat st) (zaf st) .none kV doc pm an cdv ct∧K.lookup f=some ⟨oc,od,.func fd,osl⟩∧PySem.W.codeIn K cdv qual=true
 kp:PySem.W.keepIn K (.ref f)=true
section
variable {P : Program} {w : World} {K : Fg} {mg : Str → Option Value} {base : Heap}
theorem Fun.ok {x qual:Str}{st:Stmt}{f:Addr}{fd:FuncData}{N ps:List Str}{k:Nat}{sp:Sp}(F:Fun K x qual st f fd) (S:FnScope N ps (zaf st)) (len:∀ vs H Q E,sp vs H Q E→vs.length=ps.length)
  (hbody:∀ (cdv:Value) (A:Around) (outer:List Env) (s:Shared) (H:Hp) (vs:List V) (Q:VK) (E:XK),Room k (A.deeper (envOfC qual (zaf st) s.heap.objs.size f cdv))→sp vs H Q E→
   ∃ t,PSs (cxOf CX0 P w K mg base N qual (zaf st) f cdv A outer s H E).nox (zat st) t∧t {nx:=λ_ H'=>Q .non H',rt:=Q} (start N vs) H):FnOk P w K mg base CX0 (k+1) f fd ps sp:=by
 obtain⟨oc,od,kV,doc,pm,an,cdv,ct,osl,rfl,lk,hcd⟩:=F.ex
 refine zmO lk hcd S len λA outer s H vs Q E hr hsp=>?_
 obtain⟨t,h,q⟩:=hbody cdv A outer s H vs Q E hr hsp
 exact⟨t,h.nox,q⟩
theorem Fun.binds {x qual:Str}{st:Stmt}{f:Addr}{fd:FuncData}{ps:List Str}(F:Fun K x qual st f fd)
  (h:∀ (kV doc pm:Value) (an:Option Addr) (cdv ct:Value) (us:List Value),us.length=ps.length→bindArgs (PySem.W.fnOf x qual (zay st) (zat st) (zaf st) .none kV doc pm an cdv ct) ⟨us,[]⟩=pure (ps.zip us)):zez K fd ps []:=by
 obtain⟨oc,od,kV,doc,pm,an,cdv,ct,osl,rfl,lk,hcd⟩:=F.ex
 exact .all (h kV doc pm an cdv ct)
theorem zaS {x qual:Str}{st:Stmt}{f:Addr}{oc:Value}{od an:Option Addr}{osl:Array (Option Value)}{kV doc pm cdv ct:Value}(l:K.lookup f=some ⟨oc,od,.func (PySem.W.fnOf x qual (zay st) (zat st) (zaf st) .none kV doc pm an cdv ct),osl⟩)
  (c:PySem.W.codeIn K cdv qual=true) (k:PySem.W.keepIn K (.ref f)=true):Fun K x qual st f (PySem.W.fnOf x qual (zay st) (zat st) (zaf st) .none kV doc pm an cdv ct):=⟨⟨oc,od,kV,doc,pm,an,cdv,ct,osl,rfl,l,c⟩,k⟩
end
theorem zcS {n:Nat}(h:n≤1000):n<sizeLine:=Nat.lt_of_le_of_lt h (by decide)
section
variable {X : Cx}
theorem pv (i:Nat) {x:Str}{pos:Pos}(hN:X.N[i]?=some x:=by rfl) (hv:Vis X.env.scope x:=by first | exact Or.inl rfl | exact Or.inr (Or.inl rfl) | exact Or.inr (Or.inr rfl)) (hd:(x == ("__debug__" : Str))=false:=by decide)
  (hcd:(x == ("__classdict__" : Str))=false:=by decide):PE X (.Name x pos) (tVar i):=zmx hN hv hd hcd
theorem zgo:zbZ X (.builtin "len") (λxs H Q=>∃ a kvs,xs=[V.ref a]∧H a=some (.dK kvs)∧Q (.int kvs.length) H):=by
 intro pins s σ H xs us Q I r h
 obtain⟨a,kvs,rfl,ha,q⟩:=h
 obtain⟨u,rfl,ru⟩:=zf8 r
 cases ru
 exact d_len I (.inl ha) λt s' I'=>⟨.int kvs.length,H,I',⟨t,rfl⟩,q⟩
end

theorem iteF {A B:Prop}(h:B):if false=true then A else B:=by
 rw[if_neg Bool.false_ne_true]
 exact h
theorem iteT {A B:Prop}(h:A):if true=true then A else B:=by
 rw[if_pos rfl]
 exact h
theorem ite2 {c A B:Prop} [Decidable c] (h1:c→A) (h2:¬ c→B):if c then A else B:=by
 by_cases h:c
 ·rw[if_pos h]
  exact h1 h
 ·rw[if_neg h]
  exact h2 h
def Same (H H':Hp):Prop:=∀ b o,H b=some o→H' b=some o
theorem Same.refl (H:Hp):Same H H:=λ_ _ h=>h
theorem Same.trans {H H1 H2:Hp}(a:Same H H1) (b:Same H1 H2):Same H H2:=λc o h=>b c o (a c o h)
theorem Same.free {H H':Hp}(e:Same H H') {l:Addr}(h:H' l=Option.none):H l=Option.none:=by
 cases q:H l with
 | none=>rfl
 | some o=>
  rw[e l o q] at h
  cases h
theorem Same.seq {K:Fg}{H H':Hp}{a:Addr}{xs:List V}(e:Same H H') (h:SqL K H a xs):SqL K H' a xs:=by
 rcases h with (h | ⟨o,h⟩) | h
 ·exact .inl (.inl (e _ _ h))
 ·exact .inl (.inr ⟨o,e _ _ h⟩)
 ·exact .inr h
section
variable {κ : Type} [DecidableEq κ]
theorem zkv {kvs:List (κ × V)}{k:κ}(h:valV kvs k=none):¬ k∈kvs.map (·.1):=by
 intro m
 obtain⟨p,hp,e⟩:=zmm.mp m
 have q:(kvs.any λkv=>decide (kv.1=k))=true:=List.any_eq_true.mpr ⟨p,hp,decide_eq_true e⟩
 rw[zcj,h] at q
 exact absurd q (by simp)
theorem zlS {kvs:List (κ × V)}{k:κ}{v:V}(h:valV kvs k=some v):k∈kvs.map (·.1):=by
 have q:(kvs.any λkv=>decide (kv.1=k))=true:=by
  rw[zcj,h]
  all_goals rfl
 obtain⟨p,hp,e⟩:=List.any_eq_true.mp q
 exact zmm.mpr ⟨p,hp,of_decide_eq_true e⟩
theorem zhg:∀ {l:List κ}{k:κ},l.Nodup→¬ k∈l→(l++[k]).Nodup
 | [],k,_,_=>by simp
 | a::r,k,h,hk=>by
  obtain⟨h1,h2⟩:=List.nodup_cons.mp h
  show (a::(r++[k])).Nodup
  refine List.nodup_cons.mpr ⟨λm=>?_,zhg h2 λm=>hk (List.mem_cons.mpr (Or.inr m))⟩
  rcases zma.mp m with q | q
  ·exact h1 q
  ·exact hk (List.mem_cons.mpr (Or.inl (zms.mp q).symm))
theorem zjw {p:κ × V}{r:List (κ × V)}{k:κ}(e:p.1=k):zb0 (p::r) k=zb0 r k:=by
 unfold zb0
 rw[List.filter_cons,if_neg (by simp[e])]
theorem zjx {p:κ × V}{r:List (κ × V)}{k:κ}(e:¬ p.1=k):zb0 (p::r) k=p::zb0 r k:=by
 unfold zb0
 rw[List.filter_cons,if_pos (by simp[e])]
end
end L2

namespace L2
open PySem PySem.Spec PyProof.Rows

def zcu:List Bool→St→St
 | [],_=>[]
 | _::ms,[]=>none::zcu ms []
 | b::ms,v::σ=>(if b=true then none else v)::zcu ms σ
theorem zck:∀ (ms:List Bool) (σ:St),(zcu ms σ).length=ms.length
 | [],_=>rfl
 | _::ms,[]=>by simp[zcu,zck ms []]
 | _::ms,_::σ=>by simp[zcu,zck ms σ]
theorem zeG:∀ {ms:List Bool}{σ:St}{i:Nat}{v:V},(zcu ms σ)[i]?=some (some v)→ms[i]?=some false∧σ[i]?=some (some v)
 | [],_,_,_,h=>by simp[zcu] at h
 | b::ms,[],0,v,h=>by simp[zcu] at h
 | b::ms,[],i+1,v,h=>by
  have q:=zeG (ms:=ms) (σ:=[]) (i:=i) (v:=v) (by simpa [zcu] using h)
  simp at q
 | b::ms,u::σ,0,v,h=>by
  cases b with
  | true=>simp[zcu] at h
  | false=>simp[zcu] at h;simp[h]
 | b::ms,u::σ,i+1,v,h=>by
  have q:=zeG (ms:=ms) (σ:=σ) (i:=i) (v:=v) (by simpa [zcu] using h)
  simpa using q
def zb9 (env:Env):List (Str × NameKind)→List (Str × Addr)→List (Str × Addr)
 | [],cs=>cs
 | (n,k)::r,cs=>zb9 env r (if k=.free then (match env.cells.lookup n with | some c=>(n,c)::cs | none=>cs) else cs)
theorem zgp {env:Env} : ∀ (names:List (Str × NameKind)) (cs:List (Str × Addr)),(∀ x c,cs.lookup x=some c→env.cells.lookup x=some c)→
  ∀ x c,(zb9 env names cs).lookup x=some c→env.cells.lookup x=some c
 | [],cs,h,x,c,e=>h x c e
 | (n,k)::r,cs,h,x,c,e=>by
  refine zgp r _ (λy d q=>?_) x c e
  by_cases hk:k=.free
  ·rw[if_pos hk] at q
   cases hn:env.cells.lookup n with
   | none=>rw[hn] at q;exact h y d q
   | some a=>
    rw[hn] at q
    simp only[List.lookup_cons] at q
    cases hy:y == n with
    | true=>
     rw[hy] at q
     have:y=n:=by simpa using hy
     subst this
     rw[hn];exact q
    | false=>rw[hy] at q;exact h y d q
  ·rw[if_neg hk] at q;exact h y d q
theorem zeH {env:Env} : ∀ (names:List (Str × NameKind)) (cs:List (Str × Addr)) (x:Str),(∀ p∈names,p.2=.free→∃ c,env.cells.lookup p.1=some c)→
  ((x,NameKind.free)∈names∨∃ c,cs.lookup x=some c)→∃ c,(zb9 env names cs).lookup x=some c
 | [],cs,x,_,h=>by
  rcases h with h | h
  ·cases h
  ·exact h
 | (n,k)::r,cs,x,hf,h=>by
  refine zeH r _ x (λp hp=>hf p (List.mem_cons_of_mem _ hp)) ?_
  by_cases hk:k=.free
  ·obtain⟨c,hc⟩:=hf (n,k) List.mem_cons_self hk
   simp only at hc
   rw[if_pos hk,hc]
   rcases h with h | ⟨d,hd⟩
   ·rcases List.mem_cons.mp h with e | e
    ·cases e
     exact .inr ⟨c,by simp⟩
    ·exact .inl e
   ·refine .inr ?_
    simp only[List.lookup_cons]
    cases hy:x == n with
    | true=>exact⟨c,rfl⟩
    | false=>exact⟨d,hd⟩
  ·rw[if_neg hk]
   rcases h with h | h
   ·rcases List.mem_cons.mp h with e | e
    ·cases e;exact absurd rfl hk
    ·exact .inl e
   ·exact .inr h
theorem zeI {env:Env}{f:Str × NameKind→List (Str × Addr)→Sem (ForInStep (List (Str × Addr)))}(h1:∀ n c cs,env.cells.lookup n=some c→f (n,.free) cs=pure (.yield ((n,c)::cs)))
  (h2:∀ n k cs,k≠NameKind.free→f (n,k) cs=pure (.yield cs)) :
  ∀ (names:List (Str × NameKind)) (cs:List (Str × Addr)),(∀ p∈names,p.2=.free→∃ c,env.cells.lookup p.1=some c)→forIn names cs f=pure (zb9 env names cs)
 | [],cs,_=>rfl
 | (n,k)::r,cs,hf=>by
  rw[List.forIn_cons]
  by_cases hk:k=.free
  ·subst hk
   obtain⟨c,hc⟩:=hf (n,.free) List.mem_cons_self rfl
   simp only at hc
   rw[h1 n c cs hc]
   show forIn r ((n,c)::cs) f=_
   rw[zeI h1 h2 r _ λp hp=>hf p (List.mem_cons_of_mem _ hp)]
   simp[zb9,hc]
  ·rw[h2 n k cs hk]
   show forIn r cs f=_
   rw[zeI h1 h2 r _ λp hp=>hf p (List.mem_cons_of_mem _ hp)]
   simp[zb9,hk]
theorem zjy {scope:Scope}{env:Env}(hf:∀ p∈scope.names,p.2=.free→∃ c,env.cells.lookup p.1=some c):closureFor scope env=pure (zb9 env scope.names []):=by
 simp only[closureFor]
 rw[zeI (env:=env) (λn c cs hc=>?_) (λn k cs hk=>?_) scope.names [] hf]
 ·rfl
 ·simp[cellOf,hc]
 ·have:(k == NameKind.free)=false:=by simpa using hk
  simp[this]
theorem zeg (env:Env) (x:Str):∀ (names:List (Str × NameKind)),(names.map λ(p:Str × NameKind)=>match p with
   | (n,k)=>if (k == NameKind.free && env.scope.kind == .function && env.kindOf n == some .cell)=true then (n,NameKind.cell) else (n,k)).lookup x =
  (names.lookup x).map λk=>if (k == NameKind.free && env.scope.kind == .function && env.kindOf x == some .cell)=true then NameKind.cell else k
 | []=>rfl
 | (n,k)::r=>by
  have ih:=zeg env x r
  rw[zmc]
  by_cases hc:(k == NameKind.free && env.scope.kind == .function && env.kindOf n == some .cell)=true
  ·simp only[if_pos hc,List.lookup_cons]
   cases hx:x == n with
   | true=>
    have:x=n:=by simpa using hx
    subst this
    exact (congrArg some (if_pos hc)).symm
   | false=>exact ih
  ·simp only[if_neg hc,List.lookup_cons]
   cases hx:x == n with
   | true=>
    have:x=n:=by simpa using hx
    subst this
    exact (congrArg some (if_neg hc)).symm
   | false=>exact ih
theorem zdj (scope:Scope) (env:Env) (x:Str):(relabel scope env).names.lookup x =
  (scope.names.lookup x).map λk=>if (k == NameKind.free && env.scope.kind == .function && env.kindOf x == some .cell)=true then NameKind.cell else k:=zeg env x scope.names
structure CompOk (sc0:Scope) (N:List Str) (scope:Scope) (N':List Str) (ms:List Bool):Prop where
 kind:scope.kind=.function
 nocell:∀ y∈scope.names,y.2≠.cell
 nm:∀ y∈scope.names,y.2=.local→scope.names.lookup y.1=some .local
 fr:∀ y∈scope.names,y.2=.free→sc0.names.lookup y.1=some .cell∨sc0.names.lookup y.1=some .free
 len:ms.length=N'.length
 own:∀ (i:Nat) (x:Str),N'[i]?=some x→ms[i]?=some false→scope.names.lookup x≠some .local
 out:∀ (i:Nat) (x:Str),N'[i]?=some x→ms[i]?=some false→scope.names.lookup x=some .free→N[i]?=some x
def zeJ (N:List Str) (scope:Scope):List Str→List Bool→List (Option Str)→Bool
 | x::N',false::ms,o=>(scope.names.lookup x != some .local) && (scope.names.lookup x != some .free || o.head? == some (some x)) && zeJ N scope N' ms o.tail
 | _::N',true::ms,o=>zeJ N scope N' ms o.tail
 | _,_,_=>true
theorem zdb {N:List Str}{scope:Scope} : ∀ (N':List Str) (ms:List Bool) (o:List (Option Str)),zeJ N scope N' ms o=true→∀ (i:Nat) (x:Str),N'[i]?=some x→ms[i]?=some false→
  scope.names.lookup x≠some .local∧(scope.names.lookup x=some .free→o[i]?=some (some x))
 | [],_,_,_,i,x,e,_=>by simp at e
 | _::_,[],_,_,i,x,_,e=>by simp at e
 | y::N',false::ms,o,h,i,x,e1,e2=>by
  simp only[zeJ,Bool.and_eq_true,bne_iff_ne,ne_eq,Bool.or_eq_true,beq_iff_eq] at h
  cases i with
  | zero=>
   simp at e1;subst e1
   refine⟨h.1.1,λq=>?_⟩
   rcases h.1.2 with z | z
   ·exact absurd q z
   ·cases o with
    | nil=>simp at z
    | cons a r=>simpa using z
  | succ i=>
   have q:=zdb N' ms o.tail h.2 i x (by simpa using e1) (by simpa using e2)
   refine⟨q.1,λz=>?_⟩
   have:=q.2 z
   cases o with
   | nil=>simp at this
   | cons a r=>simpa using this
 | y::N',true::ms,o,h,i,x,e1,e2=>by
  simp only[zeJ] at h
  cases i with
  | zero=>simp at e2
  | succ i=>
   have q:=zdb N' ms o.tail h i x (by simpa using e1) (by simpa using e2)
   refine⟨q.1,λz=>?_⟩
   have:=q.2 z
   cases o with
   | nil=>simp at this
   | cons a r=>simpa using this
theorem CompOk.mk' {sc0:Scope}{N:List Str}{scope:Scope}{N':List Str}{ms:List Bool}(kind:scope.kind=.function) (nocell:∀ y∈scope.names,y.2≠.cell)
  (nm:∀ y∈scope.names,y.2=.local→scope.names.lookup y.1=some .local) (fr:∀ y∈scope.names,y.2=.free→sc0.names.lookup y.1=some .cell∨sc0.names.lookup y.1=some .free)
  (len:ms.length=N'.length) (sl:zeJ N scope N' ms (N.map some)=true):CompOk sc0 N scope N' ms:=
 ⟨kind,nocell,nm,fr,len,λi x e1 e2=>(zdb N' ms _ sl i x e1 e2).1,λi x e1 e2 e3=>by
  have q:=(zdb N' ms _ sl i x e1 e2).2 e3
  rw[zgm] at q
  cases h:N[i]? with
  | none=>rw[h] at q;cases q
  | some a=>rw[h] at q;simpa using q⟩
def zbA (X:Cx) (N':List Str) (scope:Scope) (cl:List (Str × Addr)) (C:Addr) (fp:List Addr) (s3:Shared) (H3:Hp):Cx where
 prog:=X.prog
 w:=X.w
 K:=X.K
 mg:=X.mg
 base:=X.base
 A:=X.A
 N:=N'
 s₀:=s3
 H₀:=H3
 env:=compEnvC scope cl C X.env
 outer:=X.stack
 stack:=X.stack
 ex:=fp
 fn:=λ_=>false
 calm:=X.calm
 pn:=[]
 xe:=λ_ _=>False
section
variable {X : Cx} {pins : List (Addr × Obj)} {σ : St} {H : Hp} {N' : List Str} {scope : Scope} {ms : List Bool} {fp : List Addr}

theorem CompOk.cells (ok:CompOk X.env.scope X.N scope N' ms) (k:X.Ok):∀ p∈scope.names,p.2=.free→∃ c,X.env.cells.lookup p.1=some c:=λp hp e=>k.has p.1 (ok.fr p hp e)
theorem zfl {x:Str}{c:Addr}(e:(zb9 X.env scope.names []).lookup x=some c):X.env.cells.lookup x=some c:=zgp _ [] (λ_ _ q=>by cases q) x c e
theorem CompOk.kinds (ok:CompOk X.env.scope X.N scope N' ms) {x:Str}(h:(relabel scope X.env).names.lookup x=some .cell∨(relabel scope X.env).names.lookup x=some .free):scope.names.lookup x=some .free:=by
 rw[zdj] at h
 cases e:scope.names.lookup x with
 | none=>rw[e] at h;rcases h with h | h <;> cases h
 | some k=>
  rw[e] at h
  simp only[Option.map_some,Option.some.injEq] at h
  by_cases hk:k=.free
  ·rw[hk]
  ·have hb:(k == NameKind.free)=false:=by simpa using hk
   simp only[hb,Bool.false_and,Bool.false_eq_true,if_false] at h
   rcases h with h | h
   ·exact absurd h (ok.nocell _ (PySem.mem_of_lookup e))
   ·exact absurd h hk
theorem CompOk.locals (ok:CompOk X.env.scope X.N scope N' ms) {x:Str}(h:(relabel scope X.env).names.lookup x=some .local):scope.names.lookup x=some .local:=by
 rw[zdj] at h
 cases e:scope.names.lookup x with
 | none=>rw[e] at h;cases h
 | some k=>
  rw[e] at h
  simp only[Option.map_some,Option.some.injEq] at h
  split at h
  ·cases h
  ·rw[h]
theorem zlT {s3:Shared}(ok:CompOk X.env.scope X.N scope N' ms) (I:Inv X pins σ H s3) (hf:∀ b∈fp,FpOk X pins H b∧b<s3.heap.objs.size) :
  (zbA X N' scope (zb9 X.env scope.names []) s3.heap.objs.size fp s3 H).Ok where
 mod:=I.ok.mod
 kind:=ok.kind
 glob:=I.ok.glob
 blt:=I.ok.blt
 above:=Nat.le_refl _
 inj:=λx y c h1 h2=>I.ok.inj x y c (zfl h1) (zfl h2)
 has:=λx hx=>by
  have q:=ok.kinds hx
  exact zeH _ [] x (ok.cells I.ok) (.inl (PySem.mem_of_lookup q))
 cab:=λx c h=>by cases h
 hd:=I.ok.hd
 frames:=I.ok.frames
 stk:=.inl rfl
 exf:=λb hb=>⟨Nat.ne_of_lt (hf b hb).2,λx c e=>(hf b hb).1.2.2.2.2.1 x c (zfl e)⟩
 bs:=λb o e=>I.bs b o e
 bsz:=Nat.le_trans I.ok.bsz I.sz
 noex:=λb o e hb=>by
  rcases (hf b hb).1.2.2.2.1 with z | z
  ·exact I.ok.noex b o e z
  ·exact absurd (Nat.lt_of_lt_of_le (Nat.lt_of_lt_of_le (Heap.lt_size e) I.ok.bsz) z) (Nat.lt_irrefl _)
 exfs:=λb hb z=>by
  rcases List.mem_cons.mp (I.stkSub b z) with e | e
  ·exact (hf b hb).1.2.1 e
  ·exact (hf b hb).1.2.2.1 e
 funs:=I.stack
 frf:=I.stkFree
theorem zhR {h':Heap}{s5:Shared}{C:Addr}{m:Str→Option Value}(ok:CompOk X.env.scope X.N scope N' ms) (I:Inv X pins σ H s5) (hk:∀ b o,s5.heap.get? b=some o→h'.get? b=some o) :
  ∀ (i:Nat) (x:Str) (v:V),N'[i]?=some x→(zcu ms σ)[i]?=some (some v)→Vis (relabel scope X.env) x→∃ u,RelV v u∧Look (compEnvC scope (zb9 X.env scope.names []) C X.env) h' m x u:=by
 intro i x v e1 e2 e3
 obtain⟨em,ev⟩:=zeG e2
 rcases e3 with e3 | e3
 ·exact absurd (ok.locals e3) (ok.own i x e1 em)
 ·have q:=ok.kinds e3
  have en:=ok.out i x e1 em q
  have fr:=ok.fr _ (PySem.mem_of_lookup q) rfl
  obtain⟨m0,_,hl⟩:=I.loc
  obtain⟨u,r,l⟩:=hl i x v en ev (.inr fr)
  refine⟨u,r,?_⟩
  rcases l with ⟨k,_⟩ | ⟨k,c,e,o,ho,hd⟩
  ·have k':X.env.scope.names.lookup x=some .local:=k
   rcases fr with fr | fr
   ·have fr':X.env.scope.names.lookup x=some .cell:=fr
    rw[fr'] at k';cases k'
   ·have fr':X.env.scope.names.lookup x=some .free:=fr
    rw[fr'] at k';cases k'
  ·obtain⟨c',hc'⟩:=zeH _ [] x (ok.cells I.ok) (.inl (PySem.mem_of_lookup q))
   have z:=zfl hc'
   rw[e] at z;cases z
   exact .inr ⟨e3,c,hc',o,hk c o ho,hd⟩
theorem zin {s3:Shared}{h4:Heap}{tk:Nat}{m:Str→Option Value}(ok:CompOk X.env.scope X.N scope N' ms) (I:Inv X pins σ H s3) (hf:∀ b∈fp,FpOk X pins H b∧b<s3.heap.objs.size)
  (hn:h4.Ns s3.heap.objs.size m) (hk:∀ b o,s3.heap.get? b=some o→h4.get? b=some o) :
  Inv (zbA X N' scope (zb9 X.env scope.names []) s3.heap.objs.size fp s3 H) [] (zcu ms σ) H {s3 with heap:=h4,toks:=tk} where
 ok:=zlT ok I hf
 os:=rfl
 bare:=I.bare
 base:=Un.kept hk
 loc:=⟨m,hn,zhR ok I hk⟩
 cell:=λx c e=>by
  obtain⟨v,o,ho,hd⟩:=I.cell x c (zfl e)
  exact⟨v,o,hk c o ho,hd⟩
 free:=I.hok.fresh (Nat.le_refl _)
 freeC:=λx c e=>I.freeC x c (zfl e)
 pin:=λp hp=>absurd (show p∈([]:List (Addr × Obj)) from hp) (by simp)
 hok:=I.hok.kept hk
 len:=by rw[zck,ok.len];rfl
theorem zgq {pins':List (Addr × Obj)}{σ':St}{H':Hp}{s3 s':Shared}{cl:List (Str × Addr)}{C:Addr}(I:Inv X pins σ H s3) (hf:∀ b∈fp,FpOk X pins H b∧b<s3.heap.objs.size)
  (J:Inv (zbA X N' scope cl C fp s3 H) pins' σ' H' s'):Inv X pins σ H' s':=
 I.call' J.os J.base J.hok J.bare λb hb=>by
  obtain⟨_,f1,_,f3,f4,f5⟩:=(hf b hb).1
  exact⟨f3,f1,f4,f5⟩
theorem zio {pins':List (Addr × Obj)}{σ':St}{H':Hp}{s3 s':Shared}(ok:CompOk X.env.scope X.N scope N' ms) (I:Inv X pins σ H s3) (hf:∀ b∈fp,FpOk X pins H b∧b<s3.heap.objs.size)
  (J:Inv (zbA X N' scope (zb9 X.env scope.names []) s3.heap.objs.size fp s3 H) pins' σ' H' s'):Inv (zbA X N' scope (zb9 X.env scope.names []) s3.heap.objs.size fp s3 H) [] (zcu ms σ) H' s' where
 ok:=J.ok
 os:=J.os
 bare:=J.bare
 base:=J.base
 loc:=by
  obtain⟨m,hn,_⟩:=J.loc
  exact⟨m,hn,zhR ok (zgq I hf J) λ_ _ e=>e⟩
 cell:=J.cell
 free:=J.free
 freeC:=J.freeC
 pin:=λp hp=>absurd (show p∈([]:List (Addr × Obj)) from hp) (by simp)
 hok:=J.hok
 len:=by rw[zck,ok.len];rfl
end

def PIfs (X:Cx) (ifs:List Expr) (t:TT):Prop:=
 ∀ (pins:List (Addr × Obj)) (s:Shared) (σ:St) (H:Hp) (Q:Bool→Hp→Prop),Inv X pins σ H s→t σ H Q→
  wpAny (model X.prog X.w) X.A (forIn ifs true λc r=>if r=true then do let ok ←isTrue c X.env (eval c X.env);pure (ForInStep.yield ok) else pure (ForInStep.yield r)) (TP X pins σ Q) X.xe s
def zkw:TT:=λ_ H Q=>Q true H
theorem zaJ {X:Cx} : PIfs X [] zkw:=λ_ _ _ H _ I h=>wpAny_tests_nil ⟨H,I,h⟩
theorem zkx {X:Cx}{c:Expr}{t:TT}(h:PT X c t):PIfs X [c] t:=λpins s σ H Q I q=>wpAny_tests_one (h pins s σ H Q I q)
theorem zjz {prog:Program}{w:World}{A:Around}{R:Result→Shared→Prop}{s:Shared}{elt target iter:Expr}{ifs:List Expr}{scope:Scope}{pos:Pos}{it acc:Value}{env:Env}(I:Nat→Shared→Prop)
  (turn:∀ n s (E:Value→Shared→Prop),I n s→wpAny (model prog w) A (pyNext it) (λr s1=>match r with
   | none=>R (.ok .next) s1
   | some v=>wpAny (model prog w) A (letOwnedTupleGo target it v) (λ_ s2=>wpAny (model prog w) A (assign target env v) (λ_ s3=>
     wpAny (model prog w) A (forIn ifs true λc r=>if r=true then do let ok ←isTrue c env (eval c env);pure (ForInStep.yield ok) else pure (ForInStep.yield r)) (λok s4=>
      if ok=true then wpAny (model prog w) A (eval elt env) (λx s5=>wpAny (model prog w) A (call (.builtin "list.append") [acc,x]) (λ_ s6=>∃ m,m<n∧I m s6) E s5) E s4
      else ∃ m,m<n∧I m s4) E s3) E s2) E s1) E s)
  (n:Nat) (h:I n s):codeAny (model prog w) A (.compLoop (.ListComp elt [⟨target,iter,ifs,0⟩] scope pos) 0 it acc env) R s:=by
 refine codeAny_loop rfl I (λn s hI=>?_) n h
 refine wpAny_noted (env:=env) ?_
 rw[compTurn_list]
 refine wpAny_bind (wpAny_standAt (wpAny_bind ?_))
 refine wpAny_mono (turn n s _ hI) (λr s1 h1=>?_) λ_ _ e=>e
 cases r with
 | none=>exact wpAny_pure h1
 | some v=>
  refine wpAny_bind (wpAny_mono h1 (λ_ s2 h2=>?_) λ_ _ e=>e)
  refine wpAny_bind (wpAny_mono h2 (λ_ s3 h3=>?_) λ_ _ e=>e)
  refine wpAny_bind (wpAny_mono h3 (λok s4 h4=>?_) λ_ _ e=>e)
  cases ok with
  | false=>exact wpAny_pure ⟨rfl,h4⟩
  | true=>
   refine wpAny_bind (wpAny_bind (wpAny_mono h4 (λx s5 h5=>?_) λ_ _ e=>e))
   exact wpAny_bind (wpAny_mono h5 (λ_ s6 h6=>wpAny_pure (wpAny_pure ⟨rfl,h6⟩)) λ_ _ e=>e)
def zky (ms:List Bool) (wi:TI) (g:TG) (tt:TT) (te:TE):TE:=λσ H Q=>wi σ H λJ H1=>∀ D,H1 D=none→
 ∃ W:Nat→Nat→List V→Hp→Prop,(∃ m,W 0 m [] (upd H1 D (.lst [])))∧∀ i m ys H,W i m ys H→H D=some (.lst ys)∧
  ((J.stop i H∧Q (.ref D) H)∨(J.go i H∧ys.length<sizeLine∧∃ N:List V→Hp→Prop,(∀ ys' H',N ys' H'→∃ m',m'<m∧W (i+1) m' ys' H')∧
   ∀ x H',J.yld i H x H'→g x (zcu ms σ) H' λσ2 H2=>tt σ2 H2 λb H3=>if b=true then te σ2 H3 λy H4=>H4 D=some (.lst ys)∧N (ys++[y]) (upd H4 D (.lst (ys++[y]))) else N ys H3))
section
variable {X : Cx} {tg iter elt : Expr} {ifs : List Expr} {scope : Scope} {pos : Pos} {N' : List Str} {ms : List Bool} {wi : TI} {g : TG} {tt : TT} {te : TE}

set_option maxHeartbeats 4000000 in
theorem zgr {pins:List (Addr × Obj)}{s:Shared}{σ:St}{H:Hp}{Q:VK}{RR:Value→Addr→Result→Shared→Prop}(hc:X.calm=true) (ok:CompOk X.env.scope X.N scope N' ms) (hi:PI X tg iter wi)
  (hg:∀ cl C fp s3 H3,PG (zbA X N' scope cl C fp s3 H3) tg g) (ht:∀ cl C fp s3 H3,PIfs (zbA X N' scope cl C fp s3 H3) ifs tt) (he:∀ cl C fp s3 H3,PE (zbA X N' scope cl C fp s3 H3) elt te)
  (I:Inv X pins σ H s) (h:zky ms wi g tt te σ H Q)
  (hRR:∀ D C H' s' m,s'.heap.Ns C m→Inv X pins σ H' s'→FpOk X pins H' C→Q (.ref D) H'→RR (.ref D) C (.ok .next) s') :
  wpAny (model X.prog X.w) X.A (eval iter X.env) (λx s1=>wpAny (model X.prog X.w) X.A (pyIter x) (λit s2=>wpAny (model X.prog X.w) X.A (newList []) (λacc s3=>
   wpAny (model X.prog X.w) X.A (newFunctionEnv scope X.env.globals (zb9 X.env scope.names []) [] X.env.qual none .none (some X.env)) (λcenv s4=>
    codeAny (model X.prog X.w) X.A (.compStart (.ListComp elt [⟨tg,iter,ifs,0⟩] scope pos) 0 it acc {cenv with scope:=relabel scope X.env}) (RR acc cenv.locals) s4) X.xe s3) X.xe s2) X.xe s1) X.xe s:=by
 refine thn (hi pins s σ H _ I h) λv s1 h1=>thn h1 λitv s2 h2=>?_
 obtain⟨it,fp,tn,J,H2,e,I2,T,st2,f2,h2⟩:=h2
 subst e
 obtain⟨W,⟨m0,w0⟩,turn⟩:=h2 s2.heap.objs.size I2.fresh
 refine wpAny_newObj_type ?_
 have I3:=I2.lnew (ys:=[]) (its:=[]) (t':=s2.toks) .nil (Nat.zero_le _)
 generalize hs3:({s2 with heap:=s2.heap.push {cls:=.type "list",data:=.seq ([]:List Value).toArray},toks:=s2.toks} : Shared)=s3 at I3
 refine wpAny_newFunctionEnv ok.nocell (by intro y hy;simp at hy) (λh4 hn4 hs4=>?_) ok.kind
 have sz:s3.heap.objs.size=s2.heap.objs.size+1:=by rw[←hs3];exact Heap.size_push ..
 have old2:∀ b o,s2.heap.get? b=some o→s3.heap.get? b=some o:=λb o e=>by rw[←hs3];exact Heap.get?_push_of_some _ e
 have old:∀ b o,s3.heap.get? b=some o→h4.get? b=some o:=λb o e=>hs4.extBut b o (Nat.ne_of_lt (Heap.lt_size e)) (Heap.get?_push_of_some _ e)
 have fp2:∀ b∈fp,b<s2.heap.objs.size:=λb hb=>by
  obtain⟨o,ho,_⟩:=T.obj 0 _ st2 b hb
  exact Heap.lt_size ho
 have nD:∀ b∈fp,b≠s2.heap.objs.size:=λb hb=>Nat.ne_of_lt (fp2 b hb)
 have f3:∀ b∈fp,FpOk X pins (upd H2 s2.heap.objs.size (.lst [])) b∧b<s3.heap.objs.size:=λb hb=>by
  refine⟨⟨?_,(f2 b hb).2⟩,by rw[sz];exact Nat.lt_succ_of_lt (fp2 b hb)⟩
  rw[zaw (nD b hb)];exact (f2 b hb).1
 have J4:Inv (zbA X N' scope (zb9 X.env scope.names []) s3.heap.objs.size fp s3 (upd H2 s2.heap.objs.size (.lst []))) [] (zcu ms σ) (upd H2 s2.heap.objs.size (.lst [])) {s3 with heap:=h4,toks:=s3.toks+0}:=
  zin ok I3 f3 hn4 old
 have stat:∀ {H':Hp},(∀ b∈fp,H' b=none)→∀ b∈fp,FpOk (zbA X N' scope (zb9 X.env scope.names []) s3.heap.objs.size fp s3 (upd H2 s2.heap.objs.size (.lst []))) [] H' b:=λhn b hb=>
  ⟨hn b hb,(J4.ok.exf b hb).1,J4.ok.exfs b hb,.inl hb,(J4.ok.exf b hb).2,λp hp=>absurd (show p∈([]:List (Addr × Obj)) from hp) (by simp)⟩
 have loop:codeAny (model X.prog X.w) X.A (.compLoop (.ListComp elt [⟨tg,iter,ifs,0⟩] scope pos) 0 (.ref it) (.ref s2.heap.objs.size) (compEnvC scope (zb9 X.env scope.names []) s3.heap.objs.size X.env))
   (RR (.ref s2.heap.objs.size) s3.heap.objs.size) {s3 with heap:=h4,toks:=s3.toks+0}:=by
  refine zjz (λn s'=>∃ i H' ys,Inv (zbA X N' scope (zb9 X.env scope.names []) s3.heap.objs.size fp s3 (upd H2 s2.heap.objs.size (.lst []))) [] (zcu ms σ) H' s'∧tn i s'.heap∧(∀ b∈fp,H' b=none)∧W i n ys H') ?_ m0
   ⟨0,_,[],J4,T.keep 0 _ _ st2 λb hb o e=>old b o (old2 b o e),λb hb=>(f3 b hb).1.1,w0⟩
  rintro n s5 E ⟨i,H5,ys,J5,st5,fr5,w5⟩
  obtain⟨hD,alt⟩:=turn i n ys H5 w5
  rcases alt with ⟨stop,q⟩ | ⟨go,hz,N,hN,step⟩
  ·refine thn (T.done (zbA X N' scope (zb9 X.env scope.names []) s3.heap.objs.size fp s3 (upd H2 s2.heap.objs.size (.lst []))) rfl rfl rfl hc i [] s5 _ H5 E J5 (stat fr5) st5 stop) λr s6 ⟨hr,J6⟩=>?_
   subst hr
   obtain⟨m,hn,_⟩:=id J6.loc
   have I6:=zgq I3 f3 J6
   refine hRR _ _ H5 s6 m hn I6 ?_ q
   have hC:H5 s3.heap.objs.size=none:=J6.free
   obtain⟨g0,g1,g2,g3,g4,g5⟩:=I3.fpOk (b:=s3.heap.objs.size) (H':=H5) (Nat.le_refl _) hC
   exact⟨g0,g1,g2,g3,g4,g5⟩
  ·refine thn (T.item (zbA X N' scope (zb9 X.env scope.names []) s3.heap.objs.size fp s3 (upd H2 s2.heap.objs.size (.lst []))) rfl rfl rfl hc i [] s5 _ H5 E J5 (stat fr5) st5 go) λr s6 ⟨u,hr,h6⟩=>?_
   subst hr
   refine thn h6 λ_ s7 ⟨x,H7,J7,r7,y7,st7,fr7⟩=>?_
   have J7':=J7.pinned (stat fr7) (T.obj _ _ st7)
   have again:∀ {σ8:St}{H8:Hp}{s8:Shared}{zs:List V},Inv (zbA X N' scope (zb9 X.env scope.names []) s3.heap.objs.size fp s3 (upd H2 s2.heap.objs.size (.lst []))) ([]++zf6 fp s7.heap) σ8 H8 s8→N zs H8→
     ∃ m,m<n∧∃ i H' ys,Inv (zbA X N' scope (zb9 X.env scope.names []) s3.heap.objs.size fp s3 (upd H2 s2.heap.objs.size (.lst []))) [] (zcu ms σ) H' s8∧tn i s8.heap∧(∀ b∈fp,H' b=none)∧W i m ys H':=λ{σ8 H8 s8 zs} J8 n8=>by
    obtain⟨m',hm,w8⟩:=hN zs H8 n8
    refine⟨m',hm,i+1,H8,zs,zio ok I3 f3 J8,T.keep _ _ _ st7 λb hb o e=>(J8.pin (b,o) (List.mem_append_right _ (List.mem_append_right _ (zc9 hb e)))).1,λb hb=>?_,w8⟩
    obtain⟨o,e,d⟩:=T.obj _ _ st7 b hb
    exact (J8.pin (b,o) (List.mem_append_right _ (List.mem_append_right _ (zc9 hb e)))).2.1
   refine wpAny_mono (hg _ _ _ _ _ _ s7 _ H7 x u _ J7' r7 (step x H7 y7)) (λ_ s8 ⟨σ8,H8,J8,q8⟩=>?_) λ_ _ z=>False.elim z
   refine wpAny_mono (ht _ _ _ _ _ _ s8 σ8 H8 _ J8 q8) (λb s9 ⟨H9,J9,q9⟩=>?_) λ_ _ z=>False.elim z
   cases b with
   | false=>exact again J9 q9
   | true=>
    refine wpAny_mono (he _ _ _ _ _ _ s9 σ8 H9 _ J9 q9) (λv s10 ⟨y,H10,J10,r10,hD10,q10⟩=>?_) λ_ _ z=>False.elim z
    refine wpAny_mono (zgi (X:=(zbA X N' scope (zb9 X.env scope.names []) s3.heap.objs.size fp s3 (upd H2 s2.heap.objs.size (.lst [])))) _ s10 σ8 H10 (.ref s2.heap.objs.size) [y] (.ref s2.heap.objs.size) [v] (λ_ H'=>H'=upd H10 s2.heap.objs.size (.lst (ys++[y]))) J10 rfl (.cons r10 .nil) ⟨_,ys,y,rfl,rfl,hD10,hz,rfl⟩)
     (λ_ s11 ⟨_,H11,J11,_,e11⟩=>?_) λ_ _ z=>False.elim z
    subst e11
    exact again J11 q10
 exact codeAny_compStart_list loop (T.self _ 0 _ _ _ (T.keep 0 _ _ st2 λb hb o e=>old b o (old2 b o e)) loop)
theorem zbf (hc:X.calm=true) (ok:CompOk X.env.scope X.N scope N' ms) (hi:PI X tg iter wi)
  (hg:∀ cl C fp s3 H3,PG (zbA X N' scope cl C fp s3 H3) tg g) (ht:∀ cl C fp s3 H3,PIfs (zbA X N' scope cl C fp s3 H3) ifs tt) (he:∀ cl C fp s3 H3,PE (zbA X N' scope cl C fp s3 H3) elt te)
  (hs:∀ x,foldedSetIterable iter X.env x=pure x:=by intro _;rfl):PE X (.ListComp elt [⟨tg,iter,ifs,0⟩] scope pos) (zky ms wi g tt te):=by
 intro pins s σ H Q I h
 rw[eval_ListComp]
 refine wpAny_comprehension_free (use:=none) rfl hs (zjy (ok.cells I.ok)) ok.kind ok.nm ?_
 refine zgr (RR:=λacc C=>compPost (model X.prog X.w) X.A X.xe none (EP X pins σ Q) acc C) hc ok hi hg ht he I h λD C H' s' m hn I' ⟨g0,g1,g2,g3,g4,g5⟩ q=>?_
 refine⟨m,hn,λh' sb=>⟨.ref D,H',?_,rfl,q⟩⟩
 exact I'.turned (t':=s'.toks) (λb o hb e=>sb.extBut b o hb e) g0 g1 g3 g4 g5
theorem zbb {i:Nat}{y:Str}{py spos:Pos}(hN:X.N.Nodup) (hy:X.N[i]?=some y) (hl:X.env.scope.names.lookup y=some .local) (hc:X.calm=true) (ok:CompOk X.env.scope X.N scope N' ms) (hi:PI X tg iter wi)
  (hg:∀ cl C fp s3 H3,PG (zbA X N' scope cl C fp s3 H3) tg g) (ht:∀ cl C fp s3 H3,PIfs (zbA X N' scope cl C fp s3 H3) ifs tt) (he:∀ cl C fp s3 H3,PE (zbA X N' scope cl C fp s3 H3) elt te)
  (hsw:swapsWith (.ListComp elt [⟨tg,iter,ifs,0⟩] scope pos) (some (.Name y py)) spos.line X.env=pure true:=by rfl)
  (hs:∀ x,foldedSetIterable iter X.env x=pure x:=by intro _;rfl):PS X (.Assign [.Name y py] (.ListComp elt [⟨tg,iter,ifs,0⟩] scope pos) spos) (tAsg (zky ms wi g tt te) (zkj i)):=by
 intro pins s σ H D I h
 rw[exec_Assign_Name_used _ _ _ _ hsw]
 refine wpAny_bind (wpAny_standAt (wpAny_bind ?_))
 show wpAny _ _ (do let _ ←comprehension (.ListComp elt [⟨tg,iter,ifs,0⟩] scope pos) scope X.env _ (newList []) false (eval iter X.env) (some (assign (.Name y py) X.env))) _ _ s
 refine wpAny_bind (wpAny_mono (wpAny_comprehension_free (use:=some (assign (.Name y py) X.env)) (Q:=λ_ s'=>SP X pins D .next s') rfl hs (zjy (ok.cells I.ok)) ok.kind ok.nm ?_) (λ_ s' q=>wpAny_pure (wpAny_pure q)) λ_ _ e=>e)
 refine zgr (RR:=λacc C=>compPost (model X.prog X.w) X.A X.xe (some (assign (.Name y py) X.env)) (λ_ s'=>SP X pins D .next s') acc C) hc ok hi hg ht he I h λDa C H' s' m hn I' ⟨g0,g1,g2,g3,g4,g5⟩ q=>?_
 show wpAny _ _ (assign (.Name y py) X.env (.ref Da)) _ _ s'
 refine wpAny_assign_Name (zf3 I' hN hy (.inl hl) (show RelV (.ref Da) (.ref Da) from rfl) (λs'' I'' ⟨a,sa,ha⟩=>?_) (.inr hl))
 have hCa:C≠a:=by
  rcases ha with e | e
  ·rw[e];exact g1
  ·exact λz=>g4 y a e z.symm
 refine⟨m,hn.sameBut sa hCa,λh' sb=>⟨σ.set i (some (.ref Da)),H',?_,q⟩⟩
 exact I''.turned (t':=s''.toks) (λb o hb e=>sb.extBut b o hb e) g0 g1 g3 g4 g5
end
end L2

namespace L2
open PySem PySem.Spec PyProof.Rows

section
variable {X : Cx} {pins : List (Addr × Obj)} {σ : St} {H : Hp} {s : Shared} {h' : Heap} {t' : Nat}
theorem Inv.turnedN {ch:List Addr}(I:Inv X pins σ H s) (hch:∀ b∈ch,FpOk X pins H b) (k:∀ b o,b∉ch→s.heap.get? b=some o→h'.get? b=some o):Inv X pins σ H {s with heap:=h',toks:=t'}:=by
 have nit:∀ b u,H b=some u→b∉ch:=λb u e z=>by rw[(hch b z).1] at e;cases e
 refine I.step (g':=s.gens) (d':=s.drawn) (ch:=ch) (λb hb=>?_) (λb o _ _ hc e _=>k b o hc e) (λb o _ _ hc e _=>⟨o.slots,k b o hc e⟩) (λ_ _ _ _ n=>n) (λb o hc e=>⟨o,k b o hc e⟩) (λ_ _ e=>e) (λ_ _ _ e=>e)
  (λb ps e=>⟨#[],by rw[e];simp⟩) (λm hm=>?_) (λb u e=>?_) I.bare
 ·obtain⟨_,f1,_,f3,f4,f5⟩:=hch b hb
  exact⟨f3,f1,f4,f5⟩
 ·obtain⟨o,es,ep,ho,r⟩:=hm
  exact⟨o,es,ep,k _ o (λz=>(hch _ z).2.1 rfl) ho,r⟩
 ·refine (I.hok b u e).stay (λc v hc q=>k c v ?_ q) (λ_ q=>q) λ_ _ q=>q
  rcases hc with z | z
  ·rw[z];exact nit b u e
  ·exact nit c _ z
end

theorem ziq {h:Heap}{a b:Addr}{o u:Obj}(e1:h.get? a=some o) (e2:h.get? b=some u) (d:o.cls≠u.cls):a≠b:=λz=>by
 subst z;rw[e1] at e2;cases e2;exact d rfl
theorem zcT {h:Heap}{a b:Addr}{its:Array Value}{u:Obj}{T:String}(e1:h.IsList a its) (e2:h.get? b=some u) (c:u.cls=.type T) (d:T≠ "list"):a≠b:=by
 obtain⟨o,ho,hc,_⟩:=e1
 refine ziq ho e2 ?_
 rw[hc,c]
 intro z
 injection z with z
 exact d z.symm
def Itz (K:Fg) (a b:Addr):It:=
  ⟨λi H=>∃ xs ys x y,SqL K H a xs∧SqL K H b ys∧xs[i]?=some x∧ys[i]?=some y,
   λi H v H'=>∃ T,H T=none∧v=.ref T∧∀ xs ys x y,SqL K H a xs→SqL K H b ys→xs[i]?=some x→ys[i]?=some y→H'=upd H T (.tup [x,y]),
   λi H=>∃ xs ys,SqL K H a xs∧SqL K H b ys∧(xs[i]?=none∨ys[i]?=none)⟩
structure Zap (z TI TO i1 i2:Addr):Prop where
 a1:TI≠z
 a2:TO≠z
 a3:i1≠z
 a4:i2≠z
 a5:TI≠TO
 a6:TI≠i1
 a7:TI≠i2
 a8:TO≠i1
 a9:TO≠i2
 a10:i1≠i2
theorem zlU (n:Nat):Zap (n+4) (n+2) (n+3) n (n+1):=by constructor <;> (show (_:Nat)≠_;omega)
def zm8 (z TI TO i1 i2 a b:Addr) (i:Nat) (h:Heap):Prop:=IsZip h z TI TO .none∧IsPair h TI (.ref i1) (.ref i2)∧(∃ p q,IsPair h TO p q)∧h.IsListIter i1 a i∧h.IsListIter i2 b i
theorem zlf {h:Heap}{z TI TO i1 i2 a b:Addr}{i:Nat}{xs ys:Array Value}(D:Zap z TI TO i1 i2) (t:zm8 z TI TO i1 i2 a b i h) (hx:h.IsList a xs) (hy:h.IsList b ys):ZipApart z TI TO i1 i2 a b:=by
 obtain⟨hz,hI,⟨p,q,hO⟩,⟨o1,e1,c1,_⟩,⟨o2,e2,c2,_⟩⟩:=t
 exact⟨D.a1,D.a2,D.a3,D.a4,D.a5,D.a6,D.a7,D.a8,D.a9,D.a10,zcT hx hz rfl (by decide),zcT hx hO rfl (by decide),zcT hx e1 c1 (by decide),zcT hx e2 c2 (by decide),zcT hy hz rfl (by decide),zcT hy hO rfl (by decide),zcT hy e1 c1 (by decide),zcT hy e2 c2 (by decide)⟩
theorem zkz {P:Program}{w:World}{K:Fg}{elts:List Expr}{kx:Nat}{tpos:Pos}{z TI TO i1 i2:Addr}(a b:Addr) (D:Zap z TI TO i1 i2) :
  Turn P w K (.Tuple elts kx tpos) (Itz K a b) [z,TI,TO,i1,i2] z (zm8 z TI TO i1 i2 a b) where
 mem:=by simp
 obj:=λi h st c hb=>by
  obtain⟨hz,hI,⟨p,q,hO⟩,⟨o1,e1,c1,d1⟩,⟨o2,e2,c2,d2⟩⟩:=st
  simp only[List.mem_cons,List.not_mem_nil,or_false] at hb
  rcases hb with rfl | rfl | rfl | rfl | rfl
  ·exact⟨_,hz,λv x=>by cases x⟩
  ·exact⟨_,hI,λv x=>by cases x⟩
  ·exact⟨_,hO,λv x=>by cases x⟩
  ·exact⟨_,e1,λv x=>by rw[d1] at x;cases x⟩
  ·exact⟨_,e2,λv x=>by rw[d2] at x;cases x⟩
 keep:=λi h h' st k=>by
  obtain⟨hz,hI,⟨p,q,hO⟩,h1,h2⟩:=st
  exact⟨k z (by simp) _ hz,k TI (by simp) _ hI,⟨p,q,k TO (by simp) _ hO⟩,h1.at λo e=>k i1 (by simp) o e,h2.at λo e=>k i2 (by simp) o e⟩
 item:=by
  intro X hP hw hK hc i pins s σ H E I hf st hg
  subst hP hw hK
  obtain⟨xs,ys,x,y,hx,hy,ex,ey⟩:=hg
  obtain⟨its,rx,px,zx⟩:=I.list hx
  obtain⟨jts,ry,py,zy⟩:=I.list hy
  obtain⟨u,eu,ru⟩:=rx.get ex
  obtain⟨v,ev,rv⟩:=ry.get ey
  have Z:=zlf D st px.isList py.isList
  obtain⟨hz,hI,⟨p,q,hO⟩,h1,h2⟩:=id st
  refine wpAny_pyNext_zip_item Z hz hI hO h1 h2 px.isList py.isList (x:=u) (y:=v) (by simpa using eu) (by simpa using ev) λh' z1 o1 l1 l2 t1 sz k1=>?_
  refine⟨_,rfl,wpAny_letOwnedTupleGo_zip (s:={s with heap:=h'}) z1 λh'' z2 sb=>?_⟩
  have nT:H s.heap.objs.size=none:=I.hok.fresh (Nat.le_refl _)
  have IT:Inv X pins σ (upd H s.heap.objs.size (.tup [x,y])) {s with heap:=s.heap.push {cls:=.type "tuple",data:=.seq #[u,v]},toks:=s.toks}:=
   I.laid (λb o e=>Heap.get?_push_of_some _ e) (Nat.le_refl _) (show zbL X.prog X.w _ _ _ (.tup [x,y]) from ⟨by show 2≤sizeLine;decide,[u,v],.cons ru (.cons rv .nil),IsTup.new _ _⟩)
  have nz:z≠s.heap.objs.size:=Nat.ne_of_lt (Heap.lt_size hz)
  have fT:∀ c∈[z,TI,TO,i1,i2],FpOk X pins (upd H s.heap.objs.size (.tup [x,y])) c:=λc hcm=>by
   obtain⟨g0,gr⟩:=hf c hcm
   refine⟨?_,gr⟩
   obtain⟨o,ho,_⟩:∃ o,s.heap.get? c=some o∧True:=by
    simp only[List.mem_cons,List.not_mem_nil,or_false] at hcm
    rcases hcm with rfl | rfl | rfl | rfl | rfl
    ·exact⟨_,hz,trivial⟩
    ·exact⟨_,hI,trivial⟩
    ·exact⟨_,hO,trivial⟩
    ·obtain⟨o,e,_⟩:=h1;exact⟨o,e,trivial⟩
    ·obtain⟨o,e,_⟩:=h2;exact⟨o,e,trivial⟩
   rw[zaw (Nat.ne_of_lt (Heap.lt_size ho))]
   exact g0
  have up:∀ c o,c∉[z,TI,TO,i1,i2]→(s.heap.push {cls:=.type "tuple",data:=.seq #[u,v]}).get? c=some o→h''.get? c=some o:=λc o hn e=>by
   simp only[List.mem_cons,List.not_mem_nil,or_false,not_or] at hn
   refine sb.extBut c o hn.1 ?_
   by_cases hcs:c=s.heap.objs.size
   ·subst hcs
    rw[Heap.get?_push_size _ rfl] at e
    cases e
    exact t1
   ·refine k1 c o hn.1 hn.2.2.1 hn.2.2.2.1 hn.2.2.2.2 ?_
    rw[Heap.get?_push_ne _ _ _ hcs] at e
    exact e
  refine⟨.ref s.heap.objs.size,_,IT.turnedN (h':=h'') (t':=s.toks) fT up,rfl,⟨_,nT,rfl,λxs' ys' x' y' q1 q2 q3 q4=>?_⟩,?_,λc hcm=>(fT c hcm).1⟩
  ·rw[I.list_inj q1 hx,ex] at q3
   rw[I.list_inj q2 hy,ey] at q4
   cases q3;cases q4;rfl
  ·refine⟨z2,sb.extBut _ _ D.a1 (k1 _ _ D.a1 D.a5 D.a6 D.a7 hI),⟨_,_,sb.extBut _ _ D.a2 o1⟩,l1.extBut sb.extBut D.a3,l2.extBut sb.extBut D.a4⟩
 done:=by
  intro X hP hw hK hc i pins s σ H E I hf st hg
  subst hP hw hK
  obtain⟨xs,ys,hx,hy,en⟩:=hg
  obtain⟨its,rx,px,zx⟩:=I.list hx
  obtain⟨jts,ry,py,zy⟩:=I.list hy
  have Z:=zlf D st px.isList py.isList
  obtain⟨hz,hI,⟨p,q,hO⟩,h1,h2⟩:=id st
  have en':its.toArray[i]?=none∨jts.toArray[i]?=none:=by
   rcases en with e | e
   ·exact .inl (by simpa using rx.none_of e)
   ·exact .inr (by simpa using ry.none_of e)
  exact wpAny_pyNext_zip_end (I.ok.hd hc) Z hz hI hO h1 h2 px.isList py.isList en' λh' k1=>⟨rfl,I.turnedN (t':=s.toks) hf λc o hn e=>by
   simp only[List.mem_cons,List.not_mem_nil,or_false,not_or] at hn
   exact k1 c o hn.1 hn.2.2.1 hn.2.2.2.1 hn.2.2.2.2 e⟩
 self:=λ_ _ _ _ _ st h=>wpAny_pyIter_zip st.1 h
def iZip (K:Fg) (ta:TA):TI:=λσ H R=>ta σ H λvs H1=>∃ a b,vs=[.ref a,.ref b]∧(∃ xs,SqL K H1 a xs)∧(∃ ys,SqL K H1 b ys)∧R (Itz K a b) H1
theorem zkA:bootBuiltins "zip"=some (.type "zip"):=by decide +kernel
section
variable {X : Cx}
theorem zm9 {elts:List Expr}{kx:Nat}{tpos:Pos}{a b:Expr}{ta:TA}{p pos:Pos}(hg:Gl X "zip") (hm:X.mg "zip"=none) (ha:PA X [a,b] ta) (hs:starEach [a,b] X.env=[(false,eval a X.env),(false,eval b X.env)]:=by rfl) (hs2:starEach [b] X.env=[(false,eval b X.env)]:=by rfl) :
  PI X (.Tuple elts kx tpos) (.Call (.Name "zip" p) [a,b] [] pos) (iZip X.K ta):=by
 intro pins s σ H R I h
 refine Call_ (zf4 I hg hm zkA (PyProof.Rows.callWith_type1 (thn (ha pos pins s σ H _ I h) λus s1 ⟨vs,H1,I1,r1,q1⟩=>?_) (by rw[hs,hs2]) (by rw[hs2];rfl)))
 obtain⟨l1,l2,e,⟨xs,hx⟩,⟨ys,hy⟩,q⟩:=q1
 subst e
 obtain⟨u,v,e,ru,rv⟩:=r1.two
 subst e
 cases ru;cases rv
 obtain⟨its,rx,px,zx⟩:=I1.list hx
 obtain⟨jts,ry,py,zy⟩:=I1.list hy
 refine call_zip_2 px.isList py.isList λh' z1 p1 p2 i1 i2 sz k=>?_
 refine wpAny_pyIter_zip (s:={s1 with heap:=h'}) z1 ?_
 have I2:Inv X pins σ H1 {s1 with heap:=h',toks:=s1.toks}:=I1.kept k
 have D:=zlU s1.heap.objs.size
 refine⟨_,_,_,_,H1,rfl,I2,zkz l1 l2 D,⟨z1,p1,⟨_,_,p2⟩,i1,i2⟩,λc hc=>?_,q⟩
 have le:s1.heap.objs.size≤c:=by
  simp only[List.mem_cons,List.not_mem_nil,or_false] at hc
  first
   | (rcases hc with rfl | rfl | rfl | rfl | rfl <;> first | exact Nat.le_refl _ | exact Nat.le_add_right _ _)
   | (rcases hc with rfl | rfl <;> first | exact Nat.le_refl _ | exact Nat.le_add_right _ _)
 exact I1.fpOk le (I1.hok.fresh le)
end

section
variable {X : Cx}
end

section
variable {X : Cx}
theorem zjA {bs:List Bool}{its:List Value}(r:Vals (bs.map V.bl) its) {i:Nat}{v:Value}(e:its[i]?=some v):∃ b,bs[i]?=some b∧v=.bool b:=by
 have hl:=r.length
 rw[zlm] at hl
 have hi:i<bs.length:=by
  have:=(zge.mp e).1
  omega
 obtain⟨u,hu,ru⟩:=r.get (i:=i) (x:=V.bl bs[i]) (by simp[hi])
 rw[e] at hu;cases hu
 exact⟨bs[i],by simp[hi],ru⟩
theorem zjB {bs:List Bool}{n:Nat}(h:n=bs.length):(List.range n).all (λi=>bs[i]?.getD false)=bs.all id:=by
 subst h
 rw[Bool.eq_iff_iff]
 simp only[List.all_eq_true,List.mem_range,id]
 constructor
 ·intro q x hx
  obtain⟨i,hi,rfl⟩:=List.getElem_of_mem hx
  have:=q i hi
  simpa [hi] using this
 ·intro q i hi
  simpa [hi] using q bs[i] (List.getElem_mem hi)
theorem zkB (hc:X.calm=true):zbZ X (.builtin "all") (λxs H Q=>∃ (p:Addr) (bs:List Bool),xs=[.ref p]∧SqL X.K H p (bs.map V.bl)∧Q (.bl (bs.all id)) H):=by
 intro pins s σ H xs us Q I r h
 obtain⟨p,bs,rfl,hq,q⟩:=h
 obtain⟨u,rfl,rx⟩:=zf8 r
 cases rx
 obtain⟨its,rv,pl,hz⟩:=I.list hq
 have hl:=rv.length
 rw[zlm] at hl
 refine call_all_walk (wpAny_pyIter_list pl.isList ?_)
 have hne:p≠s.heap.objs.size:=by
  obtain⟨o,ho,_⟩:=pl.isList
  exact Nat.ne_of_lt (Heap.lt_size ho)
 refine⟨s.heap.objs.size,_,_,_,_,_,λi=>bs[i]?.getD false,rfl,Walks.list (show X.A.in1.handled=none from I.ok.hd hc) s.heap.objs.size p hne its.toArray,⟨⟨_,Heap.get?_push_size _ rfl,rfl,rfl⟩,Heap.IsList.push pl.isList _⟩,λi v s' Q' E' hP hQ=>?_,λh' tk hk=>?_⟩
 ·obtain⟨b,hb,rfl⟩:=zjA rv (i:=i) (v:=v) (by simpa using hP)
  refine wpAny_truthy_bool ?_
  simpa [hb] using hQ
 ·rw[zjB (by rw[zst];exact hl.symm)]
  refine⟨.bl _,H,I.kept λb o e=>hk b o ?_ (Heap.get?_push_of_some _ e),rfl,q⟩
  simp only[List.mem_cons,List.not_mem_nil,or_false]
  exact Nat.ne_of_lt (Heap.lt_size e)
end
end L2

namespace L2
open PySem PySem.Spec PyProof.Rows PySem.SeqAt

inductive D where
 | non | bl (b:Bool) | int (i:Int) | str (x:Str) | lst (xs:List D) | tup (xs:List D)
mutual
def dep:D→Nat
 | .lst xs=>deps xs+1
 | .tup xs=>deps xs+1
 | _=>0
def deps:List D→Nat
 | []=>0
 | d::ds=>max (dep d) (deps ds)
end
mutual
def pyEq:D→D→Bool
 | .non,.non=>true
 | .bl a,.bl b=>a == b
 | .int a,.int b=>a == b
 | .bl a,.int b=>(if a then 1 else 0) == b
 | .int a,.bl b=>a == (if b then 1 else 0)
 | .str a,.str b=>a == b
 | .lst xs,.lst ys=>zcr xs ys
 | .tup xs,.tup ys=>zcr xs ys
 | _,_=>false
def zcr:List D→List D→Bool
 | [],[]=>true
 | x::xs,y::ys=>pyEq x y && zcr xs ys
 | _,_=>false
end
mutual
def Rep (K:Fg) (H:Hp):D→V→Prop
 | .non,v=>v=.non
 | .bl b,v=>v=.bl b
 | .int i,v=>v=.int i
 | .str x,v=>v=.str x
 | .lst ds,v=>∃ a xs,v=.ref a∧SqL K H a xs∧Reps K H ds xs
 | .tup ds,v=>∃ a xs,v=.ref a∧SqT K H a xs∧Reps K H ds xs
def Reps (K:Fg) (H:Hp):List D→List V→Prop
 | [],vs=>vs=[]
 | d::ds,vs=>∃ v r,vs=v::r∧Rep K H d v∧Reps K H ds r
end
theorem zdJ:∀ {ds:List D}{d:D},d∈ds→dep d≤deps ds
 | d::ds,e,h=>by
  rcases List.mem_cons.mp h with h | h
  ·subst h;unfold deps;exact Nat.le_max_left _ _
  ·have:=zdJ h
   unfold deps
   exact Nat.le_trans this (Nat.le_max_right _ _)
theorem Reps.length {K:Fg}{H:Hp} : ∀ {ds:List D}{vs:List V},Reps K H ds vs→ds.length=vs.length
 | [],vs,h=>by unfold Reps at h;subst h;rfl
 | d::ds,vs,h=>by
  unfold Reps at h
  obtain⟨v,r,rfl,_,h⟩:=h
  simp[Reps.length h]
theorem Reps.get {K:Fg}{H:Hp} : ∀ {ds:List D}{vs:List V}{i:Nat}{d:D},Reps K H ds vs→ds[i]?=some d→∃ v,vs[i]?=some v∧Rep K H d v
 | [],vs,i,d,h,e=>by simp at e
 | c::ds,vs,i,d,h,e=>by
  unfold Reps at h
  obtain⟨v,r,rfl,h1,h⟩:=h
  cases i with
  | zero=>simp at e;subst e;exact⟨v,rfl,h1⟩
  | succ i=>
   obtain⟨w,e1,e2⟩:=Reps.get h (show ds[i]?=some d by simpa using e)
   exact⟨w,by simpa using e1,e2⟩
theorem Reps.get' {K:Fg}{H:Hp}{ds:List D}{vs:List V}{i:Nat}{v:V}(h:Reps K H ds vs) (e:vs[i]?=some v):∃ d,ds[i]?=some d∧Rep K H d v:=by
 have hl:=h.length
 have hi:=(zge.mp e).1
 obtain⟨w,e1,e2⟩:=h.get (i:=i) (d:=ds[i]) (by simp)
 rw[e] at e1;cases e1
 exact⟨ds[i],by simp,e2⟩
theorem Reps.of {K:Fg}{H:Hp} : ∀ {ds:List D}{vs:List V},ds.length=vs.length→(∀ (i:Nat) d v,ds[i]?=some d→vs[i]?=some v→Rep K H d v)→Reps K H ds vs
 | [],[],_,_=>by unfold Reps;rfl
 | d::ds,v::vs,hl,h=>by
  unfold Reps
  exact⟨v,vs,rfl,h 0 d v rfl rfl,Reps.of (by simpa using hl) λi e w e1 e2=>h (i+1) e w (by simpa using e1) (by simpa using e2)⟩
theorem Reps.ints {K:Fg}{H:Hp} : ∀ {ns:List Int}{vs:List V},Reps K H (ns.map D.int) vs↔vs=ns.map V.int
 | [],vs=>by unfold List.map Reps;rfl
 | n::ns,vs=>by
  rw[zmc]
  unfold Reps
  constructor
  ·rintro⟨v,r,rfl,h1,h⟩
   unfold Rep at h1
   subst h1
   rw[Reps.ints.mp h];rfl
  ·rintro rfl
   exact⟨_,_,rfl,by unfold Rep;rfl,Reps.ints.mpr rfl⟩
theorem Same.tup {K:Fg}{H H':Hp}{a:Addr}{xs:List V}(e:Same H H') (h:SqT K H a xs):SqT K H' a xs:=by
 rcases h with (h | ⟨o,h⟩) | h
 ·exact .inl (.inl (e _ _ h))
 ·exact .inl (.inr ⟨o,e _ _ h⟩)
 ·exact .inr h
mutual
theorem Rep.same {K:Fg}{H H':Hp}(e:Same H H'):∀ (d:D) {v:V},Rep K H d v→Rep K H' d v
 | .non,_,h=>by unfold Rep at *;exact h
 | .bl _,_,h=>by unfold Rep at *;exact h
 | .int _,_,h=>by unfold Rep at *;exact h
 | .str _,_,h=>by unfold Rep at *;exact h
 | .lst ds,_,h=>by
  unfold Rep at *
  obtain⟨a,xs,h1,h2,h3⟩:=h
  exact⟨a,xs,h1,e.seq h2,Reps.same e ds h3⟩
 | .tup ds,_,h=>by
  unfold Rep at *
  obtain⟨a,xs,h1,h2,h3⟩:=h
  exact⟨a,xs,h1,e.tup h2,Reps.same e ds h3⟩
theorem Reps.same {K:Fg}{H H':Hp}(e:Same H H'):∀ (ds:List D) {vs:List V},Reps K H ds vs→Reps K H' ds vs
 | [],_,h=>by unfold Reps at *;exact h
 | d::ds,_,h=>by
  unfold Reps at *
  obtain⟨v,r,h1,h2,h3⟩:=h
  exact⟨v,r,h1,Rep.same e d h2,Reps.same e ds h3⟩
end

mutual
theorem zcU:∀ d:D,pyEq d d=true
 | .non=>by unfold pyEq;rfl
 | .bl _=>by unfold pyEq;simp
 | .int _=>by unfold pyEq;simp
 | .str _=>by unfold pyEq;simp
 | .lst ds=>by unfold pyEq;exact zd4 ds
 | .tup ds=>by unfold pyEq;exact zd4 ds
theorem zd4:∀ ds:List D,zcr ds ds=true
 | []=>by unfold zcr;rfl
 | d::ds=>by unfold zcr;rw[zcU d,zd4 ds];rfl
end
theorem zcV:∀ {xs ys:List D},zcr xs ys=true→xs.length=ys.length
 | [],[],_=>rfl
 | [],_::_,h=>by unfold zcr at h;cases h
 | _::_,[],h=>by unfold zcr at h;cases h
 | x::xs,y::ys,h=>by
  unfold zcr at h
  rw[Bool.and_eq_true] at h
  simp[zcV h.2]
theorem zcW:∀ {xs ys:List D},xs.length=ys.length→(List.range xs.length).all (λj=>pyEq (xs.getD j .non) (ys.getD j .non))=zcr xs ys
 | [],[],_=>by unfold zcr;rfl
 | x::xs,y::ys,h=>by
  have ih:=zcW (xs:=xs) (ys:=ys) (by simpa using h)
  unfold zcr
  rw[List.length_cons,List.range_succ_eq_map,List.all_cons,List.all_map,←ih]
  rfl
mutual
theorem Rep.inj {X:Cx}{pins:List (Addr × Obj)}{σ:St}{H:Hp}{s:Shared}(I:Inv X pins σ H s):∀ (d e:D) {v:V},Rep X.K H d v→Rep X.K H e v→d=e
 | .non,e,v,h,q=>by unfold Rep at h;subst h;cases e <;> unfold Rep at q <;> first | rfl | (cases q;done) | (obtain⟨_,_,q,_⟩:=q;cases q)
 | .bl _,e,v,h,q=>by unfold Rep at h;subst h;cases e <;> unfold Rep at q <;> first | (cases q;rfl) | (cases q;done) | (obtain⟨_,_,q,_⟩:=q;cases q)
 | .int _,e,v,h,q=>by unfold Rep at h;subst h;cases e <;> unfold Rep at q <;> first | (cases q;rfl) | (cases q;done) | (obtain⟨_,_,q,_⟩:=q;cases q)
 | .str _,e,v,h,q=>by unfold Rep at h;subst h;cases e <;> unfold Rep at q <;> first | (cases q;rfl) | (cases q;done) | (obtain⟨_,_,q,_⟩:=q;cases q)
 | .lst ds,e,v,h,q=>by
  unfold Rep at h
  obtain⟨a,xs,rfl,h1,h2⟩:=h
  cases e with
  | lst es=>
   unfold Rep at q
   obtain⟨b,ys,e1,q1,q2⟩:=q
   cases e1
   cases I.list_inj h1 q1
   rw[Reps.inj I ds es h2 q2]
  | tup es=>
   unfold Rep at q
   obtain⟨b,ys,e1,q1,q2⟩:=q
   cases e1
   obtain⟨_,_,p1,_⟩:=I.list h1
   obtain⟨_,_,p2,_⟩:=I.tuple q1
   exact absurd rfl (ne_of_list_tuple (s:=s) p1.isList p2)
  | _=>unfold Rep at q;cases q
 | .tup ds,e,v,h,q=>by
  unfold Rep at h
  obtain⟨a,xs,rfl,h1,h2⟩:=h
  cases e with
  | tup es=>
   unfold Rep at q
   obtain⟨b,ys,e1,q1,q2⟩:=q
   cases e1
   cases I.tuple_inj h1 q1
   rw[Reps.inj I ds es h2 q2]
  | lst es=>
   unfold Rep at q
   obtain⟨b,ys,e1,q1,q2⟩:=q
   cases e1
   obtain⟨_,_,p1,_⟩:=I.list q1
   obtain⟨_,_,p2,_⟩:=I.tuple h1
   exact absurd rfl (ne_of_list_tuple (s:=s) p1.isList p2)
  | _=>unfold Rep at q;cases q
theorem Reps.inj {X:Cx}{pins:List (Addr × Obj)}{σ:St}{H:Hp}{s:Shared}(I:Inv X pins σ H s):∀ (ds es:List D) {vs:List V},Reps X.K H ds vs→Reps X.K H es vs→ds=es
 | [],es,vs,h,q=>by
  unfold Reps at h;subst h
  cases es with
  | nil=>rfl
  | cons e es=>unfold Reps at q;obtain⟨_,_,q,_⟩:=q;cases q
 | d::ds,es,vs,h,q=>by
  unfold Reps at h
  obtain⟨v,r,rfl,h1,h2⟩:=h
  cases es with
  | nil=>unfold Reps at q;cases q
  | cons e es=>
   unfold Reps at q
   obtain⟨w,r',e1,q1,q2⟩:=q
   cases e1
   rw[Rep.inj I d e h1 q1,Reps.inj I ds es h2 q2]
end

section
variable {X : Cx} {pins : List (Addr × Obj)} {σ : St} {H : Hp} {s : Shared}
theorem zfE {d:D}{x:V}(h:Rep X.K H d x) (f:zdh x=true):(∃ b,d=.bl b∧x=.bl b)∨(∃ i,d=.int i∧x=.int i)∨(∃ z,d=.str z∧x=.str z)∨(d=.non∧x=.non):=by
 cases d with
 | non=>unfold Rep at h;exact .inr (.inr (.inr ⟨rfl,h⟩))
 | bl b=>unfold Rep at h;exact .inl ⟨b,rfl,h⟩
 | int b=>unfold Rep at h;exact .inr (.inl ⟨b,rfl,h⟩)
 | str b=>unfold Rep at h;exact .inr (.inr (.inl ⟨b,rfl,h⟩))
 | lst ds=>unfold Rep at h;obtain⟨a,xs,rfl,_⟩:=h;cases f
 | tup ds=>unfold Rep at h;obtain⟨a,xs,rfl,_⟩:=h;cases f
theorem zkC {d e:D}{x y:V}(h:Rep X.K H d x) (q:Rep X.K H e y) (fx:zdh x=true) (fy:zdh y=true):eqV x y=pyEq d e:=by
 rcases zfE h fx with ⟨b,rfl,rfl⟩ | ⟨b,rfl,rfl⟩ | ⟨b,rfl,rfl⟩ | ⟨rfl,rfl⟩ <;> rcases zfE q fy with ⟨c,rfl,rfl⟩ | ⟨c,rfl,rfl⟩ | ⟨c,rfl,rfl⟩ | ⟨rfl,rfl⟩ <;> unfold pyEq eqV <;> rfl
theorem zet {A:Around}{ds es:List D}{xs ys:List V}{us vs:List Value}(hd:Reps X.K H ds xs) (he:Reps X.K H es ys) (ru:Vals xs us) (rv:Vals ys vs)
  (ih:∀ (d e:D) (x y:V) (u v:Value),d∈ds→Rep X.K H d x→Rep X.K H e y→RelV x u→RelV y v→EqAt A s u v (pyEq d e)) :
  ∀ j (h1:j<us.toArray.size) (h2:j<vs.toArray.size),EqAt A s us.toArray[j] vs.toArray[j] (pyEq (ds.getD j .non) (es.getD j .non)):=by
 intro j h1 h2
 simp only[zst] at h1 h2
 have l1:=hd.length
 have l2:=he.length
 have l3:=ru.length
 have l4:=rv.length
 have j1:j<ds.length:=by omega
 have j2:j<es.length:=by omega
 obtain⟨x,ex,rx⟩:=hd.get (i:=j) (d:=ds[j]) (by simp[j1])
 obtain⟨y,ey,ry⟩:=he.get (i:=j) (d:=es[j]) (by simp[j2])
 obtain⟨u,eu,ru'⟩:=ru.get ex
 obtain⟨v,ev,rv'⟩:=rv.get ey
 have e1:us.toArray[j]=u:=by
  obtain⟨_,q⟩:=zge.mp eu
  simpa using q
 have e2:vs.toArray[j]=v:=by
  obtain⟨_,q⟩:=zge.mp ev
  simpa using q
 rw[e1,e2,show ds.getD j .non=ds[j] by simp[List.getD,j1],show es.getD j .non=es[j] by simp[List.getD,j2]]
 exact ih _ _ x y u v (List.getElem_mem j1) rx ry ru' rv'
theorem zlg (I:Inv X pins σ H s):∀ (n:Nat) (d e:D) (A:Around) (x y:V) (u v:Value),dep d≤n→A.units+n<cLine→Rep X.K H d x→Rep X.K H e y→RelV x u→RelV y v→EqAt A s u v (pyEq d e):=by
 intro n
 induction n with
 | zero=>
  intro d e A x y u v hn hu hd he ru rv
  have fx:zdh x=true:=by
   cases d with
   | non=>unfold Rep at hd;subst hd;rfl
   | bl b=>unfold Rep at hd;subst hd;rfl
   | int b=>unfold Rep at hd;subst hd;rfl
   | str b=>unfold Rep at hd;subst hd;rfl
   | lst ds=>unfold dep at hn;omega
   | tup ds=>unfold dep at hn;omega
  by_cases fy:zdh y=true
  ·rw[←zkC hd he fx fy]
   exact zk9 ru rv fx fy
  ·cases e with
   | non=>unfold Rep at he;subst he;exact absurd rfl fy
   | bl b=>unfold Rep at he;subst he;exact absurd rfl fy
   | int b=>unfold Rep at he;subst he;exact absurd rfl fy
   | str b=>unfold Rep at he;subst he;exact absurd rfl fy
   | lst es=>
    unfold Rep at he
    obtain⟨a,ys,rfl,hq,_⟩:=he
    cases rv
    obtain⟨_,_,p,_⟩:=I.list hq
    rcases zfE hd fx with ⟨b,rfl,rfl⟩ | ⟨b,rfl,rfl⟩ | ⟨b,rfl,rfl⟩ | ⟨rfl,rfl⟩
    ·cases ru;unfold pyEq;exact EqAt.bool_list b p.isList (by omega)
    ·obtain⟨t,rfl⟩:=ru;unfold pyEq;exact EqAt.int_list b t p.isList (by omega)
    ·obtain⟨t,rfl⟩:=ru;unfold pyEq;exact EqAt.str_list b t p.isList (by omega)
    ·cases ru;unfold pyEq;exact EqAt.none_list p.isList (by omega)
   | tup es=>
    unfold Rep at he
    obtain⟨a,ys,rfl,hq,_⟩:=he
    cases rv
    obtain⟨_,_,p,_⟩:=I.tuple hq
    rcases zfE hd fx with ⟨b,rfl,rfl⟩ | ⟨b,rfl,rfl⟩ | ⟨b,rfl,rfl⟩ | ⟨rfl,rfl⟩
    ·cases ru;unfold pyEq;exact EqAt.bool_tuple b p (by omega)
    ·obtain⟨t,rfl⟩:=ru;unfold pyEq;exact EqAt.int_tuple b t p (by omega)
    ·obtain⟨t,rfl⟩:=ru;unfold pyEq;exact EqAt.str_tuple b t p (by omega)
    ·cases ru;unfold pyEq;exact EqAt.none_tuple p (by omega)
 | succ n ih=>
  intro d e A x y u v hn hu hd he ru rv
  by_cases h0:dep d≤n
  ·exact ih d e A x y u v h0 (by omega) hd he ru rv
  ·cases d with
   | non=>unfold dep at h0;omega
   | bl b=>unfold dep at h0;omega
   | int b=>unfold dep at h0;omega
   | str b=>unfold dep at h0;omega
   | lst ds=>
    unfold dep at hn
    have hd0:=hd
    unfold Rep at hd
    obtain⟨a,xs,rfl,hx,rx⟩:=hd
    cases ru
    obtain⟨its,vx,px,zx⟩:=I.list hx
    cases e with
    | non=>unfold Rep at he;subst he;cases rv;unfold pyEq;exact EqAt.list_none px.isList (by omega)
    | bl b=>unfold Rep at he;subst he;cases rv;unfold pyEq;exact EqAt.list_bool b px.isList (by omega)
    | int b=>unfold Rep at he;subst he;obtain⟨t,rfl⟩:=rv;unfold pyEq;exact EqAt.list_int b t px.isList (by omega)
    | str b=>unfold Rep at he;subst he;obtain⟨t,rfl⟩:=rv;unfold pyEq;exact EqAt.list_str b t px.isList (by omega)
    | tup es=>
     unfold Rep at he
     obtain⟨b,ys,rfl,hy,ry⟩:=he
     cases rv
     obtain⟨jts,vy,py,zy⟩:=I.tuple hy
     unfold pyEq
     exact EqAt.list_tuple px.isList py (by omega)
    | lst es=>
     have he0:=he
     unfold Rep at he
     obtain⟨b,ys,rfl,hy,ry⟩:=he
     cases rv
     obtain⟨jts,vy,py,zy⟩:=I.list hy
     by_cases hab:a=b
     ·subst hab
      rw[Rep.inj I _ _ hd0 he0,zcU]
      exact EqAt.same _
     ·refine EqAt.of_refs hab ?_
      unfold pyEq
      have l1:=rx.length
      have l2:=ry.length
      have l3:=vx.length
      have l4:=vy.length
      by_cases hl:ds.length=es.length
      ·have q:=RcAt.lists (A:=A) (e:=λj=>pyEq (ds.getD j .non) (es.getD j .non)) px.isList py.isList (by simp only[zst];omega) (by omega)
        (zet rx ry vx vy λd e x y u v hm h1 h2 h3 h4=>ih d e A.in1 x y u v (Nat.le_trans (zdJ hm) (by omega)) (by show A.units+1+n<cLine;omega) h1 h2 h3 h4)
       rw[show its.toArray.size=ds.length by rw[zst];omega,zcW hl] at q
       exact q
      ·rw[show zcr ds es=false by
        cases h:zcr ds es with
        | false=>rfl
        | true=>exact absurd (zcV h) hl]
       exact RcAt.lists_lengths px.isList py.isList (by simp only[zst,bne_iff_ne];omega) (by omega)
   | tup ds=>
    unfold dep at hn
    have hd0:=hd
    unfold Rep at hd
    obtain⟨a,xs,rfl,hx,rx⟩:=hd
    cases ru
    obtain⟨its,vx,px,zx⟩:=I.tuple hx
    cases e with
    | non=>unfold Rep at he;subst he;cases rv;unfold pyEq;exact EqAt.tuple_none px (by omega)
    | bl b=>unfold Rep at he;subst he;cases rv;unfold pyEq;exact EqAt.tuple_bool b px (by omega)
    | int b=>unfold Rep at he;subst he;obtain⟨t,rfl⟩:=rv;unfold pyEq;exact EqAt.tuple_int b t px (by omega)
    | str b=>unfold Rep at he;subst he;obtain⟨t,rfl⟩:=rv;unfold pyEq;exact EqAt.tuple_str b t px (by omega)
    | lst es=>
     unfold Rep at he
     obtain⟨b,ys,rfl,hy,ry⟩:=he
     cases rv
     obtain⟨jts,vy,py,zy⟩:=I.list hy
     unfold pyEq
     exact EqAt.tuple_list px py.isList (by omega)
    | tup es=>
     have he0:=he
     unfold Rep at he
     obtain⟨b,ys,rfl,hy,ry⟩:=he
     cases rv
     obtain⟨jts,vy,py,zy⟩:=I.tuple hy
     by_cases hab:a=b
     ·subst hab
      rw[Rep.inj I _ _ hd0 he0,zcU]
      exact EqAt.same _
     ·refine EqAt.of_refs hab ?_
      unfold pyEq
      have l1:=rx.length
      have l2:=ry.length
      have l3:=vx.length
      have l4:=vy.length
      have q:=RcAt.tuples (A:=A) (e:=λj=>pyEq (ds.getD j .non) (es.getD j .non)) px py (by omega)
        (zet rx ry vx vy λd e x y u v hm h1 h2 h3 h4=>ih d e A.in1 x y u v (Nat.le_trans (zdJ hm) (by omega)) (by show A.units+1+n<cLine;omega) h1 h2 h3 h4)
      by_cases hl:ds.length=es.length
      ·rw[show min its.toArray.size jts.toArray.size=ds.length by rw[zst,zst];omega,zcW hl,show (its.toArray.size == jts.toArray.size)=true by rw[zst,zst,beq_iff_eq];omega,Bool.and_true] at q
       exact q
      ·rw[show zcr ds es=false by
        cases h:zcr ds es with
        | false=>rfl
        | true=>exact absurd (zcV h) hl]
       rw[show (its.toArray.size == jts.toArray.size)=false by rw[zst,zst,beq_eq_false_iff_ne];omega,Bool.and_false] at q
       exact q
theorem zlh (I:Inv X pins σ H s) {n:Nat}{d e:D}{A:Around}{a b:Addr}(hn:dep d≤n) (hu:A.units+n<cLine) (hd:Rep X.K H d (.ref a)) (he:Rep X.K H e (.ref b)):RcAt A s (.ref a) (.ref b) (pyEq d e)∧RcNeAt A s (.ref a) (.ref b) (!pyEq d e):=by
 cases d with
 | non=>unfold Rep at hd;cases hd
 | bl _=>unfold Rep at hd;cases hd
 | int _=>unfold Rep at hd;cases hd
 | str _=>unfold Rep at hd;cases hd
 | lst ds=>
  unfold dep at hn
  unfold Rep at hd
  obtain⟨_,xs,e1,hx,rx⟩:=hd
  cases e1
  obtain⟨its,vx,px,zx⟩:=I.list hx
  cases e with
  | non=>unfold Rep at he;cases he
  | bl _=>unfold Rep at he;cases he
  | int _=>unfold Rep at he;cases he
  | str _=>unfold Rep at he;cases he
  | tup es=>
   unfold Rep at he
   obtain⟨_,ys,e1,hy,ry⟩:=he
   cases e1
   obtain⟨jts,vy,py,zy⟩:=I.tuple hy
   unfold pyEq
   exact⟨RcAt.list_tuple px.isList py (by omega),RcNeAt.list_tuple px.isList py (by omega)⟩
  | lst es=>
   unfold Rep at he
   obtain⟨_,ys,e1,hy,ry⟩:=he
   cases e1
   obtain⟨jts,vy,py,zy⟩:=I.list hy
   unfold pyEq
   have l1:=rx.length
   have l2:=ry.length
   have l3:=vx.length
   have l4:=vy.length
   by_cases hl:ds.length=es.length
   ·have it:=zet (s:=s) (A:=A.in1) rx ry vx vy λd e x y u v hm h1 h2 h3 h4=>zlg I (n - 1) d e A.in1 x y u v (Nat.le_trans (zdJ hm) (by omega)) (by show A.units+1+(n - 1)<cLine;omega) h1 h2 h3 h4
    have q:=RcAt.lists (A:=A) px.isList py.isList (by simp only[zst];omega) (by omega) it
    have q2:=RcNeAt.lists (A:=A) px.isList py.isList (by simp only[zst];omega) (by omega) it
    rw[show its.toArray.size=ds.length by rw[zst];omega,zcW hl] at q q2
    exact⟨q,q2⟩
   ·rw[show zcr ds es=false by
     cases h:zcr ds es with
     | false=>rfl
     | true=>exact absurd (zcV h) hl]
    exact⟨RcAt.lists_lengths px.isList py.isList (by simp only[zst,bne_iff_ne];omega) (by omega),RcNeAt.lists_lengths px.isList py.isList (by simp only[zst,bne_iff_ne];omega) (by omega)⟩
 | tup ds=>
  unfold dep at hn
  unfold Rep at hd
  obtain⟨_,xs,e1,hx,rx⟩:=hd
  cases e1
  obtain⟨its,vx,px,zx⟩:=I.tuple hx
  cases e with
  | non=>unfold Rep at he;cases he
  | bl _=>unfold Rep at he;cases he
  | int _=>unfold Rep at he;cases he
  | str _=>unfold Rep at he;cases he
  | lst es=>
   unfold Rep at he
   obtain⟨_,ys,e1,hy,ry⟩:=he
   cases e1
   obtain⟨jts,vy,py,zy⟩:=I.list hy
   unfold pyEq
   exact⟨RcAt.tuple_list px py.isList (by omega),RcNeAt.tuple_list px py.isList (by omega)⟩
  | tup es=>
   unfold Rep at he
   obtain⟨_,ys,e1,hy,ry⟩:=he
   cases e1
   obtain⟨jts,vy,py,zy⟩:=I.tuple hy
   unfold pyEq
   have l1:=rx.length
   have l2:=ry.length
   have l3:=vx.length
   have l4:=vy.length
   have it:=zet (s:=s) (A:=A.in1) rx ry vx vy λd e x y u v hm h1 h2 h3 h4=>zlg I (n - 1) d e A.in1 x y u v (Nat.le_trans (zdJ hm) (by omega)) (by show A.units+1+(n - 1)<cLine;omega) h1 h2 h3 h4
   have q:=RcAt.tuples (A:=A) px py (by omega) it
   have q2:=RcNeAt.tuples (A:=A) px py (by omega) it
   by_cases hl:ds.length=es.length
   ·rw[show min its.toArray.size jts.toArray.size=ds.length by rw[zst,zst];omega,zcW hl,show (its.toArray.size == jts.toArray.size)=true by rw[zst,zst,beq_iff_eq];omega,Bool.and_true] at q q2
    exact⟨q,q2⟩
   ·rw[show zcr ds es=false by
     cases h:zcr ds es with
     | false=>rfl
     | true=>exact absurd (zcV h) hl]
    rw[show (its.toArray.size == jts.toArray.size)=false by rw[zst,zst,beq_eq_false_iff_ne];omega,Bool.and_false] at q q2
    exact⟨q,q2⟩
end

def rEqD (K:Fg) (neg:Bool):R2:=λx y H Q=>∃ a b d e,x=.ref a∧y=.ref b∧Rep K H d (.ref a)∧Rep K H e (.ref b)∧dep d≤60∧Q (.bl (if neg then !pyEq d e else pyEq d e)) H
section
variable {X : Cx} {k : Nat}
theorem zna (hr:Room k X.A):OpR X (compareOp .Eq) (rEqD X.K false):=by
 intro pins s σ H x y v u Q I rx ry h
 obtain⟨a,b,d,e,rfl,rfl,hd,he,hn,q⟩:=h
 cases rx;cases ry
 exact (zlh I (A:=X.A) hn (by have:=hr.units;omega) hd he).1 X.prog X.w X.xe _ ⟨.bl _,H,I,rfl,q⟩
theorem znb (hr:Room k X.A):OpR X (compareOp .NotEq) (rEqD X.K true):=by
 intro pins s σ H x y v u Q I rx ry h
 obtain⟨a,b,d,e,rfl,rfl,hd,he,hn,q⟩:=h
 cases rx;cases ry
 exact (zlh I (A:=X.A) hn (by have:=hr.units;omega) hd he).2 X.prog X.w X.xe _ ⟨.bl _,H,I,rfl,q⟩
theorem zhh:zbZ X (.builtin "isinstance") (λxs H Q=>∃ x c t b,xs=[x,.ty c]∧TyOf X.K H x t∧PySem.W.kitOne X.K t (.type c)=some b∧Q (.bl b) H):=by
 intro pins s σ H xs us Q I r h
 obtain⟨x,c,t,b,rfl,ty,e,q⟩:=h
 obtain⟨u,v,rfl,ru,rv⟩:=zkn r
 cases rv
 exact zjg I ru ty e λtk=>⟨.bl b,H,I.tok tk,rfl,q⟩
end
end L2

namespace L2
open PySem PySem.Spec PyProof.Rows

mutual
def RepF (H:Hp):D→V→List Addr→Prop
 | .non,v,fp=>v=.non∧fp=[]
 | .bl b,v,fp=>v=.bl b∧fp=[]
 | .int i,v,fp=>v=.int i∧fp=[]
 | .str x,v,fp=>v=.str x∧fp=[]
 | .lst ds,v,fp=>∃ a xs r,v=.ref a∧fp=a::r∧H a=some (.lst xs)∧zaj H ds xs r
 | .tup ds,v,fp=>∃ a xs,v=.ref a∧H a=some (.tup xs)∧zaj H ds xs fp
def zaj (H:Hp):List D→List V→List Addr→Prop
 | [],vs,fp=>vs=[]∧fp=[]
 | d::ds,vs,fp=>∃ v r f g,vs=v::r∧fp=f++g∧RepF H d v f∧zaj H ds r g
end
mutual
theorem RepF.rep {K:Fg}{H:Hp} : ∀ (d:D) {v:V}{fp:List Addr},RepF H d v fp→Rep K H d v
 | .non,_,_,h=>by unfold RepF at h;unfold Rep;exact h.1
 | .bl _,_,_,h=>by unfold RepF at h;unfold Rep;exact h.1
 | .int _,_,_,h=>by unfold RepF at h;unfold Rep;exact h.1
 | .str _,_,_,h=>by unfold RepF at h;unfold Rep;exact h.1
 | .lst ds,_,_,h=>by
  unfold RepF at h;unfold Rep
  obtain⟨a,xs,r,h1,_,h2,h3⟩:=h
  exact⟨a,xs,h1,SqL.of h2,zaj.reps ds h3⟩
 | .tup ds,_,_,h=>by
  unfold RepF at h;unfold Rep
  obtain⟨a,xs,h1,h2,h3⟩:=h
  exact⟨a,xs,h1,SqT.of h2,zaj.reps ds h3⟩
theorem zaj.reps {K:Fg}{H:Hp} : ∀ (ds:List D) {vs:List V}{fp:List Addr},zaj H ds vs fp→Reps K H ds vs
 | [],_,_,h=>by unfold zaj at h;unfold Reps;exact h.1
 | d::ds,_,_,h=>by
  unfold zaj at h;unfold Reps
  obtain⟨v,r,f,g,h1,_,h2,h3⟩:=h
  exact⟨v,r,h1,RepF.rep d h2,zaj.reps ds h3⟩
end
def Tups (H H':Hp):Prop:=∀ b xs,H b=some (.tup xs)→H' b=some (.tup xs)
theorem Same.tups {H H':Hp}(e:Same H H'):Tups H H':=λ_ _ h=>e _ _ h
theorem Tups.trans {H H1 H2:Hp}(a:Tups H H1) (b:Tups H1 H2):Tups H H2:=λc o h=>b c o (a c o h)
theorem zkD {H:Hp}{a:Addr}{o:HO}(h:∀ xs,H a≠some (.tup xs)):Tups H (upd H a o):=λb xs e=>by rw[zaw (λz=>h xs (by rw[←z];exact e))];exact e
theorem zfF {H:Hp}{a:Addr}{o:HO}{ys:List V}(h:H a=some (.lst ys)):Tups H (upd H a o):=zkD λxs e=>by rw[h] at e;cases e
mutual
theorem RepF.frame {H H':Hp}(tk:Tups H H'):∀ (d:D) {v:V}{fp:List Addr},(∀ a∈fp,H' a=H a)→RepF H d v fp→RepF H' d v fp
 | .non,_,_,_,h=>by unfold RepF at *;exact h
 | .bl _,_,_,_,h=>by unfold RepF at *;exact h
 | .int _,_,_,_,h=>by unfold RepF at *;exact h
 | .str _,_,_,_,h=>by unfold RepF at *;exact h
 | .lst ds,_,_,k,h=>by
  unfold RepF at *
  obtain⟨a,xs,r,h1,h0,h2,h3⟩:=h
  subst h0
  exact⟨a,xs,r,h1,rfl,(k a List.mem_cons_self).trans h2,zaj.frame tk ds (λb hb=>k b (List.mem_cons_of_mem _ hb)) h3⟩
 | .tup ds,_,_,k,h=>by
  unfold RepF at *
  obtain⟨a,xs,h1,h2,h3⟩:=h
  exact⟨a,xs,h1,tk _ _ h2,zaj.frame tk ds k h3⟩
theorem zaj.frame {H H':Hp}(tk:Tups H H'):∀ (ds:List D) {vs:List V}{fp:List Addr},(∀ a∈fp,H' a=H a)→zaj H ds vs fp→zaj H' ds vs fp
 | [],_,_,_,h=>by unfold zaj at *;exact h
 | d::ds,_,_,k,h=>by
  unfold zaj at *
  obtain⟨v,r,f,g,h1,h0,h2,h3⟩:=h
  subst h0
  exact⟨v,r,f,g,h1,rfl,RepF.frame tk d (λb hb=>k b (List.mem_append_left _ hb)) h2,zaj.frame tk ds (λb hb=>k b (List.mem_append_right _ hb)) h3⟩
end
mutual
theorem RepF.has {H:Hp} : ∀ (d:D) {v:V}{fp:List Addr},RepF H d v fp→∀ a∈fp,∃ o,H a=some o
 | .non,_,_,h,a,m=>by unfold RepF at h;rw[h.2] at m;cases m
 | .bl _,_,_,h,a,m=>by unfold RepF at h;rw[h.2] at m;cases m
 | .int _,_,_,h,a,m=>by unfold RepF at h;rw[h.2] at m;cases m
 | .str _,_,_,h,a,m=>by unfold RepF at h;rw[h.2] at m;cases m
 | .lst ds,_,_,h,b,m=>by
  unfold RepF at h
  obtain⟨a,xs,r,h1,h0,h2,h3⟩:=h
  subst h0
  rcases List.mem_cons.mp m with m | m
  ·subst m;exact⟨_,h2⟩
  ·exact zaj.has ds h3 b m
 | .tup ds,_,_,h,b,m=>by
  unfold RepF at h
  obtain⟨a,xs,h1,h2,h3⟩:=h
  exact zaj.has ds h3 b m
theorem zaj.has {H:Hp} : ∀ (ds:List D) {vs:List V}{fp:List Addr},zaj H ds vs fp→∀ a∈fp,∃ o,H a=some o
 | [],_,_,h,a,m=>by unfold zaj at h;rw[h.2] at m;cases m
 | d::ds,_,_,h,b,m=>by
  unfold zaj at h
  obtain⟨v,r,f,g,h1,h0,h2,h3⟩:=h
  subst h0
  rcases zma.mp m with m | m
  ·exact RepF.has d h2 b m
  ·exact zaj.has ds h3 b m
end
theorem zaj.length {H:Hp} : ∀ {ds:List D}{vs:List V}{fp:List Addr},zaj H ds vs fp→ds.length=vs.length
 | [],_,_,h=>by unfold zaj at h;rw[h.1];rfl
 | d::ds,_,_,h=>by
  unfold zaj at h
  obtain⟨v,r,f,g,rfl,_,_,h3⟩:=h
  simp[zaj.length h3]
theorem zaj.snoc {H:Hp} : ∀ {ds:List D}{vs:List V}{fp:List Addr}{d:D}{v:V}{f:List Addr},zaj H ds vs fp→RepF H d v f→zaj H (ds++[d]) (vs++[v]) (fp++f)
 | [],_,_,d,v,f,h,q=>by
  unfold zaj at h
  obtain⟨rfl,rfl⟩:=h
  show zaj H [d] [v] ([]++f)
  unfold zaj
  exact⟨v,[],f,[],rfl,by simp,q,by unfold zaj;exact⟨rfl,rfl⟩⟩
 | c::ds,_,_,d,v,f,h,q=>by
  unfold zaj at h
  obtain⟨u,r,f1,g1,rfl,rfl,h2,h3⟩:=h
  rw[List.cons_append,List.cons_append,List.append_assoc]
  unfold zaj
  exact⟨u,_,f1,_,rfl,rfl,h2,zaj.snoc h3 q⟩
theorem zaj.ints {H:Hp} : ∀ {ns:List Int},zaj H (ns.map D.int) (ns.map V.int) []
 | []=>by unfold List.map zaj;exact⟨rfl,rfl⟩
 | n::ns=>by
  rw[zmc,zmc]
  unfold zaj
  exact⟨_,_,[],[],rfl,rfl,by unfold RepF;exact⟨rfl,rfl⟩,zaj.ints⟩
theorem zaj.ints_eq {H:Hp} : ∀ {ns:List Int}{vs:List V}{fp:List Addr},zaj H (ns.map D.int) vs fp→vs=ns.map V.int∧fp=[]
 | [],_,_,h=>by unfold List.map zaj at h;exact h
 | n::ns,_,_,h=>by
  rw[zmc] at h
  unfold zaj at h
  obtain⟨v,r,f,g,rfl,rfl,h1,h2⟩:=h
  unfold RepF at h1
  obtain⟨rfl,rfl⟩:=h1
  obtain⟨rfl,rfl⟩:=zaj.ints_eq h2
  exact⟨rfl,rfl⟩
theorem zeu:∀ ns:List Int,dep (.lst (ns.map D.int))≤1
 | []=>by unfold List.map dep deps;exact Nat.le_refl _
 | n::ns=>by
  have ih:=zeu ns
  unfold dep at ih ⊢
  rw[zmc]
  unfold deps dep
  omega
def New (H H':Hp) (d:D) (v:V):Prop:=∃ fp,RepF H' d v fp∧fp.Nodup∧∀ a∈fp,H a=none
abbrev nums (ns:List Int):D:=.lst (ns.map D.int)
theorem New.rep {K:Fg}{H H':Hp}{d:D}{v:V}(h:New H H' d v):Rep K H' d v:=let ⟨_,h,_⟩:=h;RepF.rep d h
theorem New.int {H H':Hp}{i:Int} : New H H' (.int i) (.int i):=⟨[],by unfold RepF;exact⟨rfl,rfl⟩,List.nodup_nil,λ_ m=>by cases m⟩
theorem New.bl {H H':Hp}{i:Bool} : New H H' (.bl i) (.bl i):=⟨[],by unfold RepF;exact⟨rfl,rfl⟩,List.nodup_nil,λ_ m=>by cases m⟩
theorem New.str {H H':Hp}{i:Str} : New H H' (.str i) (.str i):=⟨[],by unfold RepF;exact⟨rfl,rfl⟩,List.nodup_nil,λ_ m=>by cases m⟩
theorem New.back {H0 H H':Hp}{d:D}{v:V}(e:Same H0 H) (h:New H H' d v):New H0 H' d v:=by
 obtain⟨fp,h1,h2,h3⟩:=h
 exact⟨fp,h1,h2,λa m=>e.free (h3 a m)⟩
theorem New.ints_iff {H H':Hp}{ns:List Int}{v:V} : New H H' (nums ns) v↔∃ a,v=.ref a∧H a=none∧H' a=some (.lst (ns.map V.int)):=by
 constructor
 ·rintro⟨fp,h1,h2,h3⟩
  unfold RepF at h1
  obtain⟨a,xs,r,e1,e2,e3,e4⟩:=h1
  obtain⟨rfl,rfl⟩:=zaj.ints_eq e4
  subst e2
  exact⟨a,e1,h3 a List.mem_cons_self,e3⟩
 ·rintro⟨a,e1,e2,e3⟩
  refine⟨[a],?_,by simp,λb m=>by rw[zms.mp m];exact e2⟩
  unfold RepF
  exact⟨a,_,[],e1,rfl,e3,zaj.ints⟩
theorem zbJ {K:Fg}{H:Hp}{ns:List Int}{v:V} : Rep K H (nums ns) v↔∃ a,v=.ref a∧SqL K H a (ns.map V.int):=by
 unfold Rep
 constructor
 ·rintro⟨a,xs,e1,e2,e3⟩
  rw[Reps.ints.mp e3] at e2
  exact⟨a,e1,e2⟩
 ·rintro⟨a,e1,e2⟩
  exact⟨a,_,e1,e2,Reps.ints.mpr rfl⟩
theorem zae {H:Hp}{p:Addr}(h:H p=none) (o:HO):Same H (upd H p o):=λb u q=>by rw[zaw (zaY q h)];exact q
theorem New.lst {H1 H':Hp}{ds:List D}{vs:List V}{fp:List Addr}{a:Addr}(h:zaj H' ds vs fp) (nd:fp.Nodup) (hf:∀ b∈fp,H1 b=none) (ha:H1 a=none) (na:a∉fp) (hH:H' a=some (.lst vs)):New H1 H' (.lst ds) (.ref a):=by
 refine⟨a::fp,?_,List.nodup_cons.mpr ⟨na,nd⟩,λb m=>?_⟩
 ·unfold RepF;exact⟨a,vs,fp,rfl,rfl,hH,h⟩
 ·rcases List.mem_cons.mp m with m | m
  ·subst m;exact ha
  ·exact hf b m
theorem New.tup {H1 H':Hp}{ds:List D}{vs:List V}{fp:List Addr}{a:Addr}(h:zaj H' ds vs fp) (nd:fp.Nodup) (hf:∀ b∈fp,H1 b=none) (hH:H' a=some (.tup vs)):New H1 H' (.tup ds) (.ref a):=by
 refine⟨fp,?_,nd,hf⟩
 unfold RepF;exact⟨a,vs,rfl,hH,h⟩
structure Goes (J:It) (H1:Hp) (n:Nat) (P:Nat→V→Hp→Prop):Prop where
 go:∀ i H,i<n→Same H1 H→J.go i H
 stop:∀ H,Same H1 H→J.stop n H
 yld:∀ i H x H',i<n→Same H1 H→J.yld i H x H'→Same H H'∧P i x H'
theorem zaV {K:Fg}{a:Addr}{xs:List V}{H1:Hp}(h:SqL K H1 a xs):Goes (Itl K a) H1 xs.length (λi x _=>xs[i]?=some x) where
 go:=λi H hi e=>⟨xs,xs[i],e.seq h,by simp[hi]⟩
 stop:=λH e=>⟨xs,e.seq h,Nat.le_refl _⟩
 yld:=λi H x H' hi e q=>by
  obtain⟨rfl,q⟩:=q
  exact⟨Same.refl _,q xs (e.seq h)⟩
theorem zhS {K:Fg}{a:Addr}{xs:List V}{H1:Hp}(h:SqT K H1 a xs):Goes (Itt K a) H1 xs.length (λi x _=>xs[i]?=some x) where
 go:=λi H hi e=>⟨xs,xs[i],e.tup h,by simp[hi]⟩
 stop:=λH e=>⟨xs,e.tup h,Nat.le_refl _⟩
 yld:=λi H x H' hi e q=>by
  obtain⟨rfl,q⟩:=q
  exact⟨Same.refl _,q xs (e.tup h)⟩
theorem zbo {lo:Int}{n:Nat}{H1:Hp} : Goes (Itr lo n) H1 n (λi x _=>x=.int (lo+i)) where
 go:=λi H hi e=>hi
 stop:=λH e=>Nat.le_refl _
 yld:=λi H x H' hi e q=>by
  obtain⟨rfl,q⟩:=q
  exact⟨Same.refl _,q⟩
theorem zdK {K:Fg}{a b:Addr}{xs ys:List V}{H1:Hp}{n:Nat}(h:SqL K H1 a xs) (h2:SqL K H1 b ys) (hn:n=min xs.length ys.length) :
  Goes (Itz K a b) H1 n (λi v H=>∃ T x y,v=.ref T∧H T=some (.tup [x,y])∧xs[i]?=some x∧ys[i]?=some y) where
 go:=λi H hi e=>⟨xs,ys,xs[i]'(by omega),ys[i]'(by omega),e.seq h,e.seq h2,by simp,by simp⟩
 stop:=λH e=>⟨xs,ys,e.seq h,e.seq h2,by
  rcases Nat.le_total xs.length ys.length with z | z
  ·exact .inl (by simp;omega)
  ·exact .inr (by simp;omega)⟩
 yld:=λi H x H' hi e q=>by
  obtain⟨T,nT,rfl,q⟩:=q
  have i1:i<xs.length:=by omega
  have i2:i<ys.length:=by omega
  have:=q xs ys xs[i] ys[i] (e.seq h) (e.seq h2) (by simp) (by simp)
  subst this
  exact⟨zae nT _,T,_,_,rfl,zac,by simp,by simp⟩
def zgs (J:It) (g:TG) (tt:TT) (te:TE) (σ0:St) (H1:Hp) (Q:VK):Prop:=∀ D,H1 D=none→
 ∃ W:Nat→Nat→List V→Hp→Prop,(∃ m,W 0 m [] (upd H1 D (.lst [])))∧∀ i m ys H,W i m ys H→H D=some (.lst ys)∧
  ((J.stop i H∧Q (.ref D) H)∨(J.go i H∧ys.length<sizeLine∧∃ N:List V→Hp→Prop,(∀ ys' H',N ys' H'→∃ m',m'<m∧W (i+1) m' ys' H')∧
   ∀ x H',J.yld i H x H'→g x σ0 H' λσ2 H2=>tt σ2 H2 λb H3=>if b=true then te σ2 H3 λy H4=>H4 D=some (.lst ys)∧N (ys++[y]) (upd H4 D (.lst (ys++[y]))) else N ys H3))
def zkE (J:It) (g:TG) (tb:TS) (D:Ends) (σ:St) (H1:Hp):Prop:=∃ W:Nat→Nat→St→Hp→Prop,(∃ m,W 0 m σ H1)∧∀ i m σ H,W i m σ H→
 (J.stop i H∧D.nx σ H)∨(J.go i H∧∃ N:St→Hp→Prop,(∀ σ' H',N σ' H'→∃ m',m'<m∧W (i+1) m' σ' H')∧∀ x H',J.yld i H x H'→g x σ H' λσ2 H2=>tb {D with nx:=N,ct:=N,bk:=D.nx} σ2 H2)
theorem zaO {J:It}{H1:Hp}{n:Nat}{P:Nat→V→Hp→Prop}{g:TG}{te:TE}{σ0:St}{Q:VK}(wk:Goes J H1 n P) (ds:List D) (hn:ds.length=n) (hz:n≤sizeLine)
  (step:∀ i x d H' (R:VK),i<n→ds[i]?=some d→Same H1 H'→P i x H'→(∀ y H3,Same H' H3→New H' H3 d y→R y H3)→g x σ0 H' λσ2 H2=>te σ2 H2 R)
  (fin:∀ v H',Same H1 H'→New H1 H' (.lst ds) v→Q v H') :
  zgs J g zkw te σ0 H1 Q:=by
 intro Da hD
 refine⟨λi m ys H=>m=n - i∧i≤n∧Same H1 H∧H Da=some (.lst ys)∧∃ fp,zaj H (ds.take i) ys fp∧fp.Nodup∧Da∉fp∧∀ b∈fp,H1 b=none,⟨n,rfl,Nat.zero_le _,zae hD _,zac,[],?_,List.nodup_nil,by simp,λ_ m=>by cases m⟩,?_⟩
 ·rw[List.take_zero];unfold zaj;exact⟨rfl,rfl⟩
 rintro i m ys H ⟨rfl,hi,hs,hH,fp,hr,nd,na,hf⟩
 refine⟨hH,?_⟩
 have hl:=hr.length
 rw[List.length_take] at hl
 by_cases hlt:i<n
 ·refine .inr ⟨wk.go i H hlt hs,by omega,λys' H'=>(n - (i+1)<n - i∧i+1≤n∧Same H1 H'∧H' Da=some (.lst ys')∧∃ fp,zaj H' (ds.take (i+1)) ys' fp∧fp.Nodup∧Da∉fp∧∀ b∈fp,H1 b=none),λys' H' ⟨q1,q2,q3,q4,q5⟩=>⟨n - (i+1),q1,rfl,q2,q3,q4,q5⟩,λx H' hy=>?_⟩
  obtain⟨s1,hp⟩:=wk.yld i H x H' hlt hs hy
  have hi':i<ds.length:=by omega
  refine step i x ds[i] H' _ hlt (by simp) (hs.trans s1) hp λy H3 s3 hn3=>?_
  have hD3:H3 Da=some (.lst ys):=s3 _ _ (s1 _ _ hH)
  refine⟨hD3,by omega,hlt,?_,zac,?_⟩
  ·intro b o e
   rw[zaw (zaY e hD)]
   exact s3 _ _ (s1 _ _ (hs _ _ e))
  ·obtain⟨fq,h1,h2,h3⟩:=hn3
   have keep:∀ b∈fp,(upd H3 Da (.lst (ys++[y]))) b=H b:=λb hb=>by
    obtain⟨o,ho⟩:=zaj.has _ hr b hb
    rw[zaw (show b≠Da from λz=>na (by rw[←z];exact hb)),ho]
    exact s3 _ _ (s1 _ _ ho)
   have nDq:Da∉fq:=λz=>by
    have:=h3 Da z
    rw[s1 _ _ hH] at this;cases this
   have tk2:Tups H3 (upd H3 Da (.lst (ys++[y]))):=zfF hD3
   have tk1:Tups H (upd H3 Da (.lst (ys++[y]))):=((s1.trans s3).tups).trans tk2
   have keep2:∀ b∈fq,(upd H3 Da (.lst (ys++[y]))) b=H3 b:=λb hb=>by rw[zaw (show b≠Da from λz=>nDq (by rw[←z];exact hb))]
   refine⟨fp++fq,?_,?_,?_,?_⟩
   ·have:=(zaj.frame tk1 _ keep hr).snoc (RepF.frame tk2 _ keep2 h1)
    rw[List.take_add_one,show ds[i]?.toList=[ds[i]] by simp[hi']]
    exact this
   ·refine List.nodup_append.mpr ⟨nd,h2,λa ha b hb z=>?_⟩
    subst z
    obtain⟨o,ho⟩:=zaj.has _ hr a ha
    have:=h3 a hb
    rw[s1 _ _ ho] at this;cases this
   ·exact λz=>(zma.mp z).elim na nDq
   ·intro b hb
    rcases zma.mp hb with z | z
    ·exact hf b z
    ·exact (hs.trans s1).free (h3 b z)
 ·have e:i=n:=by omega
  subst e
  refine .inl ⟨wk.stop H hs,fin _ _ hs ?_⟩
  rw[List.take_of_length_le (by omega)] at hr
  exact New.lst hr nd hf hD na hH
theorem zjC {J:It}{H1:Hp}{n:Nat}{P:Nat→V→Hp→Prop}{g:TG}{tt:TT}{te:TE}{σ0:St}{Q:VK}(wk:Goes J H1 n P) (k:Nat→Bool) (d:Nat→D) (hz:n≤sizeLine)
  (step:∀ i x H' (R1:VK) (R2:Hp→Prop),i<n→Same H1 H'→P i x H'→(k i=true→∀ y H3,Same H' H3→New H' H3 (d i) y→R1 y H3)→(k i=false→∀ H3,Same H' H3→R2 H3)→
   g x σ0 H' λσ2 H2=>tt σ2 H2 λb H3=>if b=true then te σ2 H3 R1 else R2 H3)
  (fin:∀ v H',Same H1 H'→New H1 H' (.lst (((List.range n).filter k).map d)) v→Q v H') :
  zgs J g tt te σ0 H1 Q:=by
 intro Da hD
 refine⟨λi m ys H=>m=n - i∧i≤n∧Same H1 H∧H Da=some (.lst ys)∧∃ fp,zaj H (((List.range i).filter k).map d) ys fp∧fp.Nodup∧Da∉fp∧∀ b∈fp,H1 b=none,⟨n,rfl,Nat.zero_le _,zae hD _,zac,[],?_,List.nodup_nil,by simp,λ_ m=>by cases m⟩,?_⟩
 ·simp only[List.range_zero,List.filter_nil,List.map_nil];unfold zaj;exact⟨rfl,rfl⟩
 rintro i m ys H ⟨rfl,hi,hs,hH,fp,hr,nd,na,hf⟩
 refine⟨hH,?_⟩
 have hl:=hr.length
 have hl2:((List.range i).filter k).length≤i:=by
  have:=List.length_filter_le k (List.range i)
  rwa [List.length_range] at this
 rw[zlm] at hl
 by_cases hlt:i<n
 ·refine .inr ⟨wk.go i H hlt hs,by omega,λys' H'=>(n - (i+1)<n - i∧i+1≤n∧Same H1 H'∧H' Da=some (.lst ys')∧∃ fp,zaj H' (((List.range (i+1)).filter k).map d) ys' fp∧fp.Nodup∧Da∉fp∧∀ b∈fp,H1 b=none),λys' H' ⟨q1,q2,q3,q4,q5⟩=>⟨n - (i+1),q1,rfl,q2,q3,q4,q5⟩,λx H' hy=>?_⟩
  obtain⟨s1,hp⟩:=wk.yld i H x H' hlt hs hy
  refine step i x H' _ _ hlt (hs.trans s1) hp (λhk y H3 s3 hn3=>?_) (λhk H3 s3=>?_)
  ·have hD3:H3 Da=some (.lst ys):=s3 _ _ (s1 _ _ hH)
   refine⟨hD3,by omega,hlt,?_,zac,?_⟩
   ·intro b o e
    rw[zaw (zaY e hD)]
    exact s3 _ _ (s1 _ _ (hs _ _ e))
   ·obtain⟨fq,h1,h2,h3⟩:=hn3
    have keep:∀ b∈fp,(upd H3 Da (.lst (ys++[y]))) b=H b:=λb hb=>by
     obtain⟨o,ho⟩:=zaj.has _ hr b hb
     rw[zaw (show b≠Da from λz=>na (by rw[←z];exact hb)),ho]
     exact s3 _ _ (s1 _ _ ho)
    have nDq:Da∉fq:=λz=>by
     have:=h3 Da z
     rw[s1 _ _ hH] at this;cases this
    have tk2:Tups H3 (upd H3 Da (.lst (ys++[y]))):=zfF hD3
    have tk1:Tups H (upd H3 Da (.lst (ys++[y]))):=((s1.trans s3).tups).trans tk2
    have keep2:∀ b∈fq,(upd H3 Da (.lst (ys++[y]))) b=H3 b:=λb hb=>by rw[zaw (show b≠Da from λz=>nDq (by rw[←z];exact hb))]
    refine⟨fp++fq,?_,?_,?_,?_⟩
    ·have:=(zaj.frame tk1 _ keep hr).snoc (RepF.frame tk2 _ keep2 h1)
     rw[List.range_succ,List.filter_append,List.map_append,List.filter_cons,hk]
     exact this
    ·refine List.nodup_append.mpr ⟨nd,h2,λa ha b hb z=>?_⟩
     subst z
     obtain⟨o,ho⟩:=zaj.has _ hr a ha
     have:=h3 a hb
     rw[s1 _ _ ho] at this;cases this
    ·exact λz=>(zma.mp z).elim na nDq
    ·intro b hb
     rcases zma.mp hb with z | z
     ·exact hf b z
     ·exact (hs.trans s1).free (h3 b z)
  ·refine⟨by omega,hlt,hs.trans (s1.trans s3),s3 _ _ (s1 _ _ hH),fp,?_,nd,na,hf⟩
   rw[List.range_succ,List.filter_append,List.map_append,List.filter_cons,hk]
   simp only[Bool.false_eq_true,if_false,List.filter_nil,List.map_nil,List.append_nil]
   refine zaj.frame (s1.trans s3).tups _ (λb hb=>?_) hr
   obtain⟨o,ho⟩:=zaj.has _ hr b hb
   rw[ho]
   exact s3 _ _ (s1 _ _ ho)
 ·have e:i=n:=by omega
  subst e
  exact .inl ⟨wk.stop H hs,fin _ _ hs (New.lst hr nd hf hD na hH)⟩
theorem zhi {J:It}{H1:Hp}{n:Nat}{P:Nat→V→Hp→Prop}{g:TG}{tb:TS}{D:Ends}{σ:St}(wk:Goes J H1 n P) (Pv:Nat→St→Hp→Prop) (h0:Pv 0 σ H1) (hl:∀ i σ H,Pv i σ H→Same H1 H)
  (hs:∀ i x σ H H',i<n→Pv i σ H→Same H H'→P i x H'→g x σ H' λσ2 H2=>tb {D with nx:=Pv (i+1),ct:=Pv (i+1),bk:=D.nx} σ2 H2) (hd:∀ σ H,Pv n σ H→D.nx σ H) :
  zkE J g tb D σ H1:=by
 refine⟨λi m σ H=>m=n - i∧i≤n∧Pv i σ H,⟨n,by simp,Nat.zero_le _,h0⟩,?_⟩
 rintro i m σ H ⟨rfl,hi,p⟩
 have e:=hl i σ H p
 by_cases hlt:i<n
 ·refine .inr ⟨wk.go i H hlt e,Pv (i+1),λσ' H' p'=>⟨n - (i+1),by omega,rfl,hlt,p'⟩,λx H' y=>?_⟩
  obtain⟨s1,hp⟩:=wk.yld i H x H' hlt e y
  exact hs i x σ H H' hlt p s1 hp
 ·have e':i=n:=by omega
  subst e'
  exact .inl ⟨wk.stop H e,hd σ H p⟩
end L2

namespace L2
open PySem PySem.Spec PyProof.Rows

structure Fn (P:Program) (w:World) (K:Fg) (mg:Str→Option Value) (base:Heap) (x:Str) (ps:List Str) (k:Nat) (sp:Sp):Prop where
 ex:∃ f fd,FnOk P w K mg base CX0 k f fd ps sp∧zez K fd ps []∧PySem.W.keepIn K (.ref f)=true∧mg x=some (.ref f)
section
variable {X : Cx} {k j : Nat} {ps : List Str} {sp : Sp} {x : Str} {p pos : Pos} {e : Expr} {es : List Expr} {t : TA}
theorem zao (G:Fn X.prog X.w X.K X.mg X.base x ps j sp) (hr:Room k X.A) (hg:Gl X x) (ha:PA X (e::es) t) (hj:j≤k:=by decide) (hdb:(x == ("__debug__" : Str))=false:=by decide)
  (he:starEach (e::es) X.env=(false,eval e X.env)::starEach es X.env:=by rfl) (hpl:(backTo pos (starEach es X.env)).any (·.1)=false:=by rfl):PE X (.Call (.Name x p) (e::es) [] pos) (zih sp [] E0 t):=by
 obtain⟨f,fd,F,hb,hk,hm⟩:=G.ex
 exact zjh (F.mono hj) hr hg hm hk hb .nil zm7 ha hdb he hpl
end
theorem Fn.of {P:Program}{w:World}{K:Fg}{mg:Str→Option Value}{base:Heap}{x:Str}{st:Stmt}{f:Addr}{fd:FuncData}{N ps:List Str}{k:Nat}{sp:Sp}(F:Fun K x x st f fd) (S:FnScope N ps (zaf st)) (m:mg x=some (.ref f))
  (hb:∀ (kV doc pm:Value) (an:Option Addr) (cdv ct:Value) (us:List Value),us.length=ps.length→bindArgs (PySem.W.fnOf x x (zay st) (zat st) (zaf st) .none kV doc pm an cdv ct) ⟨us,[]⟩=pure (ps.zip us))
  (len:∀ vs H Q E,sp vs H Q E→vs.length=ps.length)
  (hbody:∀ (cdv:Value) (A:Around) (outer:List Env) (s:Shared) (H:Hp) (vs:List V) (Q:VK) (E:XK),Room k (A.deeper (envOfC x (zaf st) s.heap.objs.size f cdv))→sp vs H Q E→
   ∃ t,PSs (cxOf CX0 P w K mg base N x (zaf st) f cdv A outer s H E).nox (zat st) t∧t {nx:=λ_ H'=>Q .non H',rt:=Q} (start N vs) H):Fn P w K mg base x ps (k+1) sp:=
 ⟨f,fd,F.ok S len hbody,F.binds hb,F.kp,m⟩
section
variable {X : Cx} {k : Nat}
def zkF (K:Fg):R2:=λx y H Q=>rI0 (λi j=>.int (i+j)) x y H Q∨rCat x y H Q∨zmS K x y H Q
theorem zlV:OpR X (binaryOp .Add) (zkF X.K):=zmH.or (zmZ.or zlK)
def zli:R2:=λx y H Q=>rI CMul (λi j=>.int (i * j)) x y H Q∨rRep x y H Q
theorem zbi:OpR X (binaryOp .Mult) zli:=zmI.or zm0
def rEqA (K:Fg):R2:=λx y H Q=>rEq x y H Q∨rEqD K false x y H Q
def rNeA (K:Fg):R2:=λx y H Q=>rNe x y H Q∨rEqD K true x y H Q
theorem znc (hr:Room k X.A):OpR X (compareOp .Eq) (rEqA X.K):=op_eq.or (zna hr)
theorem znd (hr:Room k X.A):OpR X (compareOp .NotEq) (rNeA X.K):=op_ne.or (znb hr)
end

def rLen (K:Fg):List V→Hp→VK→Prop:=λxs H Q=>∃ p ys,xs=[.ref p]∧(SqL K H p ys∨SqT K H p ys)∧Q (.int ys.length) H
def zhj (K:Fg):List V→Hp→VK→Prop:=λxs H Q=>∃ p ys,xs=[.ref p]∧(SqL K H p ys∨SqT K H p ys)∧∀ l,H l=none→Q (.ref l) (upd H l (.lst ys))
def zjD (K:Fg):List V→Hp→VK→Prop:=λxs H Q=>∃ p ys,xs=[.ref p]∧((SqL K H p ys∧∀ l,H l=none→Q (.ref l) (upd H l (.tup ys)))∨(SqT K H p ys∧Q (.ref p) H))
def rIsi (K:Fg):List V→Hp→VK→Prop:=λxs H Q=>∃ x c t b,xs=[x,.ty c]∧TyOf K H x t∧PySem.W.kitOne K t (.type c)=some b∧Q (.bl b) H
def rAll (K:Fg):List V→Hp→VK→Prop:=λxs H Q=>∃ (p:Addr) (bs:List Bool),xs=[.ref p]∧SqL K H p (bs.map V.bl)∧Q (.bl (bs.all id)) H
def rMax:List V→Hp→VK→Prop:=λxs H Q=>∃ i j,xs=[.int i,.int j]∧Q (.int (if j>i then j else i)) H
def rMin:List V→Hp→VK→Prop:=λxs H Q=>∃ i j,xs=[.int i,.int j]∧Q (.int (if j<i then j else i)) H
def rInt:List V→Hp→VK→Prop:=λxs H Q=>(∃ i,xs=[.int i]∧Q (.int i) H)∨∃ k,xs=[.bl k]∧Q (.int (if k then 1 else 0)) H
section
variable {X : Cx}
theorem c_len:zbZ X (.builtin "len") (rLen X.K):=zgf
theorem zne:zbZ X (.type "list") (zhj X.K):=zgg
theorem zlW:zbZ X (.type "tuple") (zjD X.K):=zfC
theorem c_isi:zbZ X (.builtin "isinstance") (rIsi X.K):=zhh
theorem c_all (hc:X.calm=true):zbZ X (.builtin "all") (rAll X.K):=zkB hc
theorem znf (hc:X.calm=true):zbZ X (.builtin "max") rMax:=zjb hc
theorem c_min (hc:X.calm=true):zbZ X (.builtin "min") rMin:=zjc hc
theorem c_int:zbZ X (.type "int") rInt:=zjd
end

section
variable {K : Fg} {σ : St} {H : Hp} {Q : VK} {ta tb tc : TE} {D : Ends}
theorem zng {i:Nat}{v:V}(h:σ[i]?=some (some v)) (q:Q v H):tVar i σ H Q:=⟨v,h,q⟩
theorem i_c {v:V}(q:Q v H):tC v σ H Q:=q
theorem i_op {r:R2}(h:ta σ H λx H1=>tb σ H1 λy H2=>r x y H2 Q):tOp r ta tb σ H Q:=h
theorem i_un {r:V→Hp→VK→Prop}(h:ta σ H λx H1=>r x H1 Q):tUn r ta σ H Q:=h
theorem i_rI0 {g:Int→Int→V}{i j:Int}(q:Q (g i j) H):rI0 g (.int i) (.int j) H Q:=⟨i,j,rfl,rfl,q⟩
theorem znh {i j:Int}(c:0<j) (q:Q (.int (i % j)) H):rI (λ_ j=>0<j) (λi j=>.int (i % j)) (.int i) (.int j) H Q:=⟨i,j,rfl,rfl,c,q⟩
theorem zkG (q:Q (.int 1000000000) H):rI CPow (λi j=>.int (i ^ j.toNat)) (.int 10) (.int 9) H Q:=⟨10,9,rfl,rfl,⟨by decide,by decide,by decide⟩,q⟩
theorem zni {i j:Int}(c:0<j) (c2:j<1073741824) (q:Q (.int (i / j)) H):rI CDiv (λi j=>.int (i / j)) (.int i) (.int j) H Q:=⟨i,j,rfl,rfl,⟨c,c2⟩,q⟩
theorem i_rU {g:Int→V}{i:Int}(q:Q (g i) H):rU g (.int i) H Q:=⟨i,rfl,q⟩
theorem zlX {i j:Int}(q:Q (.int (i+j)) H):zkF K (.int i) (.int j) H Q:=.inl ⟨i,j,rfl,rfl,q⟩
theorem zbk {a b:Addr}{xs ys:List V}(h1:H a=some (.lst xs)) (h2:H b=some (.lst ys)) (z:xs.length+ys.length≤sizeLine) (q:∀ p,H p=none→Q (.ref p) (upd H p (.lst (xs++ys)))):zkF K (.ref a) (.ref b) H Q:=.inr (.inl ⟨a,b,xs,ys,rfl,rfl,h1,h2,z,q⟩)
theorem zfG {i j:Int}(c:CMul i j) (q:Q (.int (i * j)) H):zli (.int i) (.int j) H Q:=.inl ⟨i,j,rfl,rfl,c,q⟩
theorem i_eqI {i j:Int}(q:Q (.bl (decide (i=j))) H):rEqA K (.int i) (.int j) H Q:=.inl ⟨rfl,by
 rw[show decide (V.int i=V.int j)=decide (i=j) by rw[decide_eq_decide];exact⟨λz=>by cases z;rfl,λz=>by rw[z]⟩];exact q⟩
theorem i_neI {i j:Int}(q:Q (.bl (!decide (i=j))) H):rNeA K (.int i) (.int j) H Q:=.inl ⟨rfl,by
 rw[show decide (V.int i=V.int j)=decide (i=j) by rw[decide_eq_decide];exact⟨λz=>by cases z;rfl,λz=>by rw[z]⟩];exact q⟩
theorem i_eqS {i j:Str}(q:Q (.bl (decide (i=j))) H):rEqA K (.str i) (.str j) H Q:=.inl ⟨rfl,by
 rw[show decide (V.str i=V.str j)=decide (i=j) by rw[decide_eq_decide];exact⟨λz=>by cases z;rfl,λz=>by rw[z]⟩];exact q⟩
theorem i_eqD {a b:Addr}{d e:L2.D}(h1:Rep K H d (.ref a)) (h2:Rep K H e (.ref b)) (n:dep d≤60) (q:Q (.bl (pyEq d e)) H):rEqA K (.ref a) (.ref b) H Q:=.inr ⟨a,b,d,e,rfl,rfl,h1,h2,n,q⟩
theorem i_neD {a b:Addr}{d e:L2.D}(h1:Rep K H d (.ref a)) (h2:Rep K H e (.ref b)) (n:dep d≤60) (q:Q (.bl (!pyEq d e)) H):rNeA K (.ref a) (.ref b) H Q:=.inr ⟨a,b,d,e,rfl,rfl,h1,h2,n,q⟩
theorem znj {Q:Bool→Hp→Prop}(h:ta σ H λx H'=>∃ k,x=.bl k∧Q k H'):zmL ta σ H Q:=h
theorem i_B {Q:Bool→Hp→Prop}(h:ta σ H λx H'=>∃ k,x=.bl k∧Q k H'):tB ta σ H Q:=h
theorem i_bl {P:Bool→Prop}{b:Bool}(h:P b):∃ k,V.bl b=.bl k∧P k:=⟨b,rfl,h⟩
theorem i_nil {Q:List V→Hp→Prop}(h:Q [] H):tNil σ H Q:=h
theorem znk {Q:List V→Hp→Prop}{tr:TA}(h:ta σ H λx H1=>tr σ H1 λxs H2=>Q (x::xs) H2):zdy ta tr σ H Q:=h
theorem znl {sp:Sp}{t:TA}(h:t σ H λvs H1=>sp vs H1 Q E0):zih sp [] E0 t σ H Q:=by
 have e:(λ(vs:List V) (H1:Hp)=>sp (vs++[]) H1 Q E0)=λvs H1=>sp vs H1 Q E0:=by funext vs H1;rw[List.append_nil]
 show t σ H λvs H1=>sp (vs++[]) H1 Q E0
 rw[e];exact h
theorem i_CB {r:List V→Hp→VK→Prop}{t:TA}(h:t σ H λvs H1=>r vs H1 Q):tCB r t σ H Q:=h
theorem i_lst {t:TA}(h:t σ H λxs H1=>xs.length≤sizeLine∧∀ p,H1 p=none→Q (.ref p) (upd H1 p (.lst xs))):tLst t σ H Q:=h
theorem i_tup {t:TA}(h:t σ H λxs H1=>xs.length≤sizeLine∧∀ p,H1 p=none→Q (.ref p) (upd H1 p (.tup xs))):tTup t σ H Q:=h
theorem i_asg {g:TG}(h:ta σ H λx H1=>g x σ H1 D.nx):tAsg ta g D σ H:=h
theorem zlY {i:Nat}{v:V}{Q:St→Hp→Prop}(h:Q (σ.set i (some v)) H):zkj i v σ H Q:=h
theorem i_ret (h:ta σ H D.rt):tRet ta D σ H:=h
theorem znm (h:ta σ H λ_ H1=>D.nx σ H1):zlB ta D σ H:=h
theorem znn (h:D.nx σ H):zi3 D σ H:=h
theorem i_if {c:TT}(h:c σ H λb H1=>if b=true then ta σ H1 Q else tb σ H1 Q):tIf c ta tb σ H Q:=h
theorem zd5 {a:Addr}{xs:List V}(h:SqL K H a xs∨SqT K H a xs) (q:Q (.int xs.length) H):rLen K [.ref a] H Q:=⟨a,xs,rfl,h,q⟩
theorem ix0 {α:Type}{x:α}{xs:List α} : ixN (x::xs).length 0=some 0:=by
 unfold ixN
 rw[if_pos (Int.le_refl 0),if_pos (by rw[List.length_cons];omega)]
 rfl
theorem zar {α:Type}{x:α}{xs:List α} : atI (x::xs) (0:Int)=some x:=zap (j:=0) rfl
theorem zbE {a:Addr}{xs:List V}{i:Int}{v:V}(h:SqL K H a xs) (e:atI xs i=some v) (q:Q v H):rIx K (.ref a) (.int i) H Q:=.inl ⟨a,xs,i,v,rfl,rfl,h,e,q⟩
theorem zax {a:Addr}{xs:List V}{i:Int}{v:V}(h:SqT K H a xs) (e:atI xs i=some v) (q:Q v H):rIx K (.ref a) (.int i) H Q:=.inr (.inl ⟨a,xs,i,v,rfl,rfl,h,e,q⟩)
end
section
variable {K : Fg} {σ : St} {H : Hp} {Q : VK} {ta tb tc : TE} {D : Ends}
theorem zno {p:Addr}{bs:List Bool}(h:SqL K H p (bs.map V.bl)) (q:Q (.bl (bs.all id)) H):rAll K [.ref p] H Q:=⟨p,bs,rfl,h,q⟩
theorem znp {i j:Int}(q:Q (.int (if j>i then j else i)) H):rMax [.int i,.int j] H Q:=⟨i,j,rfl,q⟩
theorem i_min {i j:Int}(q:Q (.int (if j<i then j else i)) H):rMin [.int i,.int j] H Q:=⟨i,j,rfl,q⟩
theorem znq {b:Bool}(q:Q (.int (if b then 1 else 0)) H):rInt [.bl b] H Q:=.inr ⟨b,rfl,q⟩
theorem znr (h:ta σ H λx H1=>∃ c,x=.bl c∧if c=true then tb σ H1 Q else Q (.bl false) H1):zmA ta tb σ H Q:=h
theorem zns (h:ta σ H λx H1=>∃ c,x=.bl c∧Q (.bl (!c)) H1):zmB ta σ H Q:=h
theorem i_and {t u:TT}{Q:Bool→Hp→Prop}(h:t σ H λc H1=>if c=true then u σ H1 Q else Q false H1):tAnd t u σ H Q:=h
theorem i_or {t u:TT}{Q:Bool→Hp→Prop}(h:t σ H λc H1=>if c=true then Q true H1 else u σ H1 Q):tOr t u σ H Q:=h
theorem i_not {t:TT}{Q:Bool→Hp→Prop}(h:t σ H λc H1=>Q (!c) H1):tNot t σ H Q:=h
theorem ze7 {x:V}{t:Value}{c:String}{b:Bool}(ty:TyOf K H x t) (e:PySem.W.kitOne K t (.type c)=some b) (q:Q (.bl b) H) :
  rIsi K [x,.ty c] H Q:=⟨x,c,t,b,rfl,ty,e,q⟩
theorem i_for {wi:TI}{g:TG}{tb:TS}(h:wi σ H λJ H1=>zkE J g tb D σ H1):tFor wi g tb D σ H:=h
theorem znt {ms:List Bool}{wi:TI}{g:TG}{tt:TT}{te:TE}(h:wi σ H λJ H1=>zgs J g tt te (zcu ms σ) H1 Q):zky ms wi g tt te σ H Q:=h
theorem zlZ {tl:TE}{R:It→Hp→Prop}(h:tl σ H λx H1=>∃ a,x=.ref a∧(∃ xs,SqL K H1 a xs)∧R (Itl K a) H1):zlD K tl σ H R:=h
theorem znu {tl:TE}{R:It→Hp→Prop}(h:tl σ H λx H1=>∃ a,x=.ref a∧(∃ xs,SqT K H1 a xs)∧R (Itt K a) H1):iTup K tl σ H R:=h
theorem i_zip {t:TA}{R:It→Hp→Prop}(h:t σ H λvs H1=>∃ a b,vs=[.ref a,.ref b]∧(∃ xs,SqL K H1 a xs)∧(∃ ys,SqL K H1 b ys)∧R (Itz K a b) H1):iZip K t σ H R:=h
theorem znv {t:TA}{R:It→Hp→Prop}(h:t σ H λvs H1=>∃ j:Int,vs=[.int j]∧-(2 ^ 62)≤j∧j<2 ^ 62∧R (Itr 0 j.toNat) H1):zmG t σ H R:=h
theorem zbQ {P:Int→Prop}{j:Int}(h1:-(2 ^ 62)≤j) (h2:j<2 ^ 62) (h:P j):∃ k:Int,[V.int j]=[.int k]∧-(2 ^ 62)≤k∧k<2 ^ 62∧P k:=⟨j,rfl,h1,h2,h⟩
theorem i_sl {r:V→Option Int→Option Int→Hp→VK→Prop}{tl th:TO}(h:ta σ H λx H1=>tl σ H1 λl H2=>th σ H2 λu H3=>r x l u H3 Q):tSl r ta tl th σ H Q:=h
theorem zkH {Q:Option Int→Hp→Prop}(h:Q none H):zjk σ H Q:=h
theorem znw {Q:Option Int→Hp→Prop}(h:ta σ H λx H1=>∃ i,x=.int i∧Q (some i) H1):zmQ ta σ H Q:=h
theorem zl0 {P:Int→Prop}{i:Int}(h:P i):∃ j,V.int i=.int j∧P j:=⟨i,rfl,h⟩
theorem znx {to ti:TE}{t:TSet}{v:V}{Q:St→Hp→Prop}(h:to σ H λo H1=>ti σ H1 λi H2=>t o i v H2 λH3=>Q σ H3):gSub to ti t v σ H Q:=h
theorem zeK {a:Addr}{xs:List V}{k:Int}{j:Nat}{v:V}{Q:Hp→Prop}(h:H a=some (.lst xs)) (e:ixN xs.length k=some j) (q:Q (upd H a (.lst (xs.set j v)))):zmW (.ref a) (.int k) v H Q:=⟨a,xs,k,j,rfl,rfl,h,e,q⟩
theorem zfH {a:Addr}{ys:List V}(h:SqL K H a ys∨SqT K H a ys) (q:∀ l,H l=none→Q (.ref l) (upd H l (.lst ys))) :
  zhj K [.ref a] H Q:=⟨a,ys,rfl,h,q⟩
end
section
variable {X : Cx} {k : Nat} {pos : Pos}
theorem zaF (K:Fg) (hK:X.K=K:=by rfl):OpR X (binaryOp .Add) (zkF K):=by subst hK;exact zlV
theorem k_eq (K:Fg) (hr:Room k X.A) (hK:X.K=K:=by rfl):OpR X (compareOp .Eq) (rEqA K):=by subst hK;exact znc hr
theorem k_ne (K:Fg) (hr:Room k X.A) (hK:X.K=K:=by rfl):OpR X (compareOp .NotEq) (rNeA K):=by subst hK;exact znd hr
theorem k_in (K:Fg) (hK:X.K=K:=by rfl):OpR X (compareOp .In) (rIn K false):=by subst hK;exact zjm
theorem k_ix (K:Fg) (hK:X.K=K:=by rfl):IxR X (rIx K):=by subst hK;exact zmV
def rSl (K:Fg):V→Option Int→Option Int→Hp→VK→Prop:=λx lo hi H Q=>rSlL K x lo hi H Q∨rSlT K x lo hi H Q
theorem k_sl (K:Fg) (hK:X.K=K:=by rfl):SlR X (rSl K):=by subst hK;exact zlN.or zmR
theorem zep (K:Fg) (hK:X.K=K:=by rfl):zbZ X (.builtin "len") (rLen K):=by subst hK;exact c_len
theorem zjE (K:Fg) (hK:X.K=K:=by rfl):zbZ X (.type "list") (zhj K):=by subst hK;exact zne
theorem zl1 (K:Fg) (hK:X.K=K:=by rfl):zbZ X (.type "tuple") (zjD K):=by subst hK;exact zlW
theorem zhk (K:Fg) (hK:X.K=K:=by rfl):zbZ X (.builtin "isinstance") (rIsi K):=by subst hK;exact c_isi
theorem zny (K:Fg) (hc:X.calm=true) (hK:X.K=K:=by rfl):zbZ X (.builtin "all") (rAll K):=by subst hK;exact c_all hc
theorem za3 (K:Fg) {tg l:Expr}{tl:TE}(hl:PE X l tl) (hK:X.K=K:=by rfl):PI X tg l (zlD K tl):=by subst hK;exact zlE hl
theorem zlj (K:Fg) {tg l:Expr}{tl:TE}(hl:PE X l tl) (hK:X.K=K:=by rfl):PI X tg l (iTup K tl):=by subst hK;exact zmF hl
theorem zgt (K:Fg) {elts:List Expr}{kx:Nat}{tpos:Pos}{a b:Expr}{ta:TA}{p:Pos}(hg:Gl X "zip") (hm:X.mg "zip"=none) (ha:PA X [a,b] ta) (hK:X.K=K:=by rfl) (hs:starEach [a,b] X.env=[(false,eval a X.env),(false,eval b X.env)]:=by rfl) (hs2:starEach [b] X.env=[(false,eval b X.env)]:=by rfl) :
  PI X (.Tuple elts kx tpos) (.Call (.Name "zip" p) [a,b] [] pos) (iZip K ta):=by subst hK;exact zm9 hg hm ha hs hs2
theorem zeL (K:Fg) {es:List Expr}{kk:Nat}{t:TGs}{n:Nat}(hc:X.calm=true) (h:PGs X es t) (hK:X.K=K:=by rfl) (hn:(assignEach es X.env).length=n:=by rfl) (hst:(assignEach es X.env).findIdx? (·.1)=none:=by rfl) :
  PG X (.Tuple es kk pos) (gTup K n t):=by subst hK;exact zmE hc h hn hst
theorem zeM (K:Fg) {e:Expr}{f:Str}{ta:TE}(he:PE X e ta) (hb:attributeBase e f X.env (eval e X.env)=eval e X.env) (hK:X.K=K:=by rfl):PE X (.Attribute e f pos) (tFld K ta f):=by subst hK;exact zmM he hb
end
theorem zbR {n:Nat}{f:Nat→D}{i:Nat}{d:D}(h:((List.range n).map f)[i]?=some d):d=f i:=by
 rw[zgm] at h
 obtain⟨j,hj,rfl⟩:=zme.mp h
 have hl:=(zge.mp hj).1
 rw[List.length_range] at hl
 have hi:i<n:=hl
 rw[List.getElem?_range hi] at hj
 cases hj;rfl
theorem zbC {X:Cx}{x:Str}{i:Int}{pos:Pos}(hg:Gl X x) (hm:∃ t,X.mg x=some (.int i t)) (hd:(x == ("__debug__" : Str))=false:=by decide):PE X (.Name x pos) (tC (.int i)):=by
 obtain⟨t,hm⟩:=hm
 exact zi1 hg hm ⟨t,rfl⟩ hd
theorem iteNT {A B:Prop}(h:B):if (!true)=true then A else B:=iteF h
theorem zag {n:Nat}(h:n≤1000):n≤sizeLine:=Nat.le_of_lt (zcS h)
theorem i_bm {K:Fg}{σ:St}{H:Hp}{Q:VK}{T:String}{r:V→List V→Hp→VK→Prop}{to:TE}{t:TA}(h:to σ H λx H1=>tyV K T x H1∧t σ H1 λxs H2=>r x xs H2 Q):tBM K T r to t σ H Q:=h
theorem tyL {K:Fg}{H:Hp}{a:Addr}{xs:List V}(h:H a=some (.lst xs)):tyV K "list" (.ref a) H:=.inl ⟨rfl,_,SqL.of h⟩
theorem i_app {H:Hp}{Q:VK}{a:Addr}{xs:List V}{y:V}(h:H a=some (.lst xs)) (z:xs.length<sizeLine) (q:Q .non (upd H a (.lst (xs++[y])))):zjn (.ref a) [y] H Q:=⟨a,xs,y,rfl,rfl,h,z,q⟩
theorem zaj.bls_eq {H:Hp} : ∀ {bs:List Bool}{vs:List V}{fp:List Addr},zaj H (bs.map D.bl) vs fp→vs=bs.map V.bl∧fp=[]
 | [],_,_,h=>by unfold List.map zaj at h;exact h
 | n::ns,_,_,h=>by
  rw[zmc] at h
  unfold zaj at h
  obtain⟨v,r,f,g,rfl,rfl,h1,h2⟩:=h
  unfold RepF at h1
  obtain⟨rfl,rfl⟩:=h1
  obtain⟨rfl,rfl⟩:=zaj.bls_eq h2
  exact⟨rfl,rfl⟩
theorem New.bls {H H':Hp}{bs:List Bool}{v:V}(h:New H H' (.lst (bs.map D.bl)) v):∃ a,v=.ref a∧H a=none∧H' a=some (.lst (bs.map V.bl)):=by
 obtain⟨fp,h1,h2,h3⟩:=h
 unfold RepF at h1
 obtain⟨a,xs,r,e1,e2,e3,e4⟩:=h1
 obtain⟨rfl,rfl⟩:=zaj.bls_eq e4
 subst e2
 exact⟨a,e1,h3 a List.mem_cons_self,e3⟩
theorem New.lst_out {H H':Hp}{ds:List D}{v:V}(h:New H H' (.lst ds) v):∃ a vs fp,v=.ref a∧H a=none∧H' a=some (.lst vs)∧zaj H' ds vs fp∧fp.Nodup∧a∉fp∧∀ b∈fp,H b=none:=by
 obtain⟨fp,h1,h2,h3⟩:=h
 unfold RepF at h1
 obtain⟨a,xs,r,e1,e2,e3,e4⟩:=h1
 subst e2
 exact⟨a,xs,r,e1,h3 a List.mem_cons_self,e3,e4,(List.nodup_cons.mp h2).2,(List.nodup_cons.mp h2).1,λb m=>h3 b (List.mem_cons_of_mem _ m)⟩
theorem zfI {lo:Int}{n:Nat}{g:TG}{tb:TS}{D:Ends}{σ:St}{H:Hp}(Pv:Nat→St→Hp→Prop) (h0:Pv 0 σ H)
  (hs:∀ i σ H,i<n→Pv i σ H→g (.int (lo+i)) σ H λσ2 H2=>tb {D with nx:=Pv (i+1),ct:=Pv (i+1),bk:=D.nx} σ2 H2) (hd:∀ σ H,Pv n σ H→D.nx σ H):zkE (Itr lo n) g tb D σ H:=zi7 Pv h0 hs hd
theorem zd6 {K:Fg}{a:Addr}{xs:List V}{g:TG}{tb:TS}{D:Ends}{σ:St}{H:Hp}(Pv:Nat→St→Hp→Prop) (h0:Pv 0 σ H) (hl:∀ i σ H,i≤xs.length→Pv i σ H→SqL K H a xs)
  (hs:∀ i x σ H,xs[i]?=some x→Pv i σ H→g x σ H λσ2 H2=>tb {D with nx:=Pv (i+1),ct:=Pv (i+1),bk:=D.nx} σ2 H2) (hd:∀ σ H,Pv xs.length σ H→D.nx σ H):zkE (Itl K a) g tb D σ H:=zkl Pv h0 hl hs hd
theorem zjF {n:Nat} : ∀ {ds:List D},(∀ d∈ds,dep d≤n)→deps ds≤n
 | [],_=>by unfold deps;exact Nat.zero_le _
 | d::ds,h=>by
  unfold deps
  exact Nat.max_le.mpr ⟨h d List.mem_cons_self,zjF λe he=>h e (List.mem_cons_of_mem _ he)⟩
theorem zjG (ls:List (List Int)):dep (.lst (ls.map nums))≤2:=by
 unfold dep
 refine Nat.succ_le_succ (zjF λd hd=>?_)
 obtain⟨l,_,rfl⟩:=zmm.mp hd
 exact zeu l
theorem zl2 {K:Fg}{H:Hp}{Q:VK}{a b:Addr}{d:D}(h1:Rep K H d (.ref a)) (h2:Rep K H d (.ref b)) (n:dep d≤60) (q:Q (.bl true) H):rEqA K (.ref a) (.ref b) H Q:=i_eqD h1 h2 n (by rw[zcU];exact q)
theorem zjH {K:Fg}{H:Hp}{Q:VK}{a b:Addr}{d:D}(h1:Rep K H d (.ref a)) (h2:Rep K H d (.ref b)) (n:dep d≤60) (q:Q (.bl false) H):rNeA K (.ref a) (.ref b) H Q:=i_neD h1 h2 n (by rw[zcU];exact q)
theorem boot_len:bootBuiltins "len"=some (.builtin "len"):=PySem.boot_len
theorem zca:bootBuiltins "list"=some (.type "list"):=by decide +kernel
theorem zfm:bootBuiltins "tuple"=some (.type "tuple"):=by decide +kernel
theorem zhT:bootBuiltins "int"=some (.type "int"):=by decide +kernel
theorem zjI:bootBuiltins "bool"=some (.type "bool"):=by decide +kernel
theorem za0:bootBuiltins "isinstance"=some (.builtin "isinstance"):=by decide +kernel
theorem zhU:bootBuiltins "all"=some (.builtin "all"):=by decide +kernel
theorem zhV:bootBuiltins "max"=some (.builtin "max"):=by decide +kernel
theorem zkI:bootBuiltins "min"=some (.builtin "min"):=by decide +kernel
theorem zdc {K:Fg}{t:Value} : PySem.W.kitOne K t t=some true:=by unfold PySem.W.kitOne;simp
theorem zgu {K:Fg} : PySem.W.kitOne K (.type "int") (.type "bool")=some false:=by rfl
end L2

namespace L2
open PySem PySem.Spec PyProof.Rows
structure Mkr (P:Program) (w:World) (K:Fg) (mg:Str→Option Value) (base:Heap) (x:Str) (C:Addr) (ps:List Str) (k:Nat) (sp:Sp):Prop where
 ex:∃ f fd,Mk K C f∧FnOk P w K mg base CX0 k f fd ps sp∧zez K fd ps []∧mg x=some (.ref C)
section
variable {X : Cx} {k j : Nat} {C : Addr} {ps : List Str} {sp : Sp} {x : Str} {p pos : Pos} {e : Expr} {es : List Expr} {t : TA}
theorem znz (G:Mkr X.prog X.w X.K X.mg X.base x C ps j sp) (hr:Room k X.A) (hg:Gl X x) (ha:PA X (e::es) t) (hj:j+1≤k:=by decide) (hdb:(x == ("__debug__" : Str))=false:=by decide)
  (he:starEach (e::es) X.env=(false,eval e X.env)::starEach es X.env:=by rfl) (hpl:(backTo pos (starEach es X.env)).any (·.1)=false:=by rfl):PE X (.Call (.Name x p) (e::es) [] pos) (zlI C sp [] E0 t):=by
 obtain⟨f,fd,M,F,hb,hm⟩:=G.ex
 exact zlJ M F (hr.mono hj) hg hm hb .nil zm7 ha hdb he hpl
theorem znA {σ:St}{H:Hp}{Q:VK}(h:t σ H λvs H1=>∀ y dx,H1 y=none→H1 dx=none→dx≠y→sp (.ref y::vs) (upd (upd H1 dx (.own y)) y (.ins C dx [])) (λv H2=>v=.non∧Q (.ref y) H2) E0):zlI C sp [] E0 t σ H Q:=by
 have e:(λ(vs:List V) (H1:Hp)=>∀ y dx,H1 y=none→H1 dx=none→dx≠y→sp (.ref y::(vs++[])) (upd (upd H1 dx (.own y)) y (.ins C dx [])) (λv H2=>v=.non∧Q (.ref y) H2) E0)
   = λvs H1=>∀ y dx,H1 y=none→H1 dx=none→dx≠y→sp (.ref y::vs) (upd (upd H1 dx (.own y)) y (.ins C dx [])) (λv H2=>v=.non∧Q (.ref y) H2) E0:=by funext vs H1;rw[List.append_nil]
 show t σ H λvs H1=>∀ y dx,H1 y=none→H1 dx=none→dx≠y→sp (.ref y::(vs++[])) (upd (upd H1 dx (.own y)) y (.ins C dx [])) (λv H2=>v=.non∧Q (.ref y) H2) E0
 rw[e];exact h
end
section
variable {K : Fg} {σ : St} {H : Hp} {Q : VK} {ta tv : TE} {D : Ends} {f : Str}
theorem i_fld (h:ta σ H λx H1=>∃ a C dx fs v,x=.ref a∧H1 a=some (.ins C dx fs)∧Cls K C∧zcL K C f∧fs.lookup f=some v∧Q v H1):tFld K ta f σ H Q:=h
theorem znB (h:tv σ H λy H1=>ta σ H1 λx H2=>∃ a C dx fs,x=.ref a∧H2 a=some (.ins C dx fs)∧Cls K C∧zcL K C f∧fs.length<1000∧D.nx σ (upd H2 a (.ins C dx (putF f y fs)))):sFld K ta tv f D σ H:=h
end
theorem zl3 {r r':R2}{σ:St}{H:Hp}{Q:VK}{ta tb tc:TE}(h:ta σ H λx H1=>tb σ H1 λy H2=>r x y H2 λz H3=>∃ k,z=.bl k∧if k=true then tc σ H3 λw H4=>r' y w H4 Q else Q (.bl false) H3):zk8 r r' ta tb tc σ H Q:=h
theorem zaj.nil {H:Hp} : zaj H [] [] []:=by unfold zaj;exact⟨rfl,rfl⟩
theorem zaj.cint {H:Hp}{i:Int}{ds:List D}{xs:List V}{fp:List Addr}(h:zaj H ds xs fp):zaj H (.int i::ds) (.int i::xs) fp:=by
 unfold zaj;exact⟨_,_,[],fp,rfl,rfl,by unfold RepF;exact⟨rfl,rfl⟩,h⟩
theorem zaj.cstr {H:Hp}{i:Str}{ds:List D}{xs:List V}{fp:List Addr}(h:zaj H ds xs fp):zaj H (.str i::ds) (.str i::xs) fp:=by
 unfold zaj;exact⟨_,_,[],fp,rfl,rfl,by unfold RepF;exact⟨rfl,rfl⟩,h⟩
theorem zaj.cany {H:Hp}{d:D}{v:V}{f:List Addr}{ds:List D}{xs:List V}{fp:List Addr}(q:RepF H d v f) (h:zaj H ds xs fp):zaj H (d::ds) (v::xs) (f++fp):=by
 unfold zaj;exact⟨_,_,f,fp,rfl,rfl,q,h⟩
theorem RepF.line {H:Hp}{a:Addr}{ns:List Int}(h:H a=some (.lst (ns.map V.int))):RepF H (nums ns) (.ref a) [a]:=by
 unfold RepF;exact⟨a,_,[],rfl,rfl,h,zaj.ints⟩
theorem RepF.pair {H:Hp}{t:Addr}{i j:Int}(h:H t=some (.tup [.int i,.int j])):RepF H (.tup [.int i,.int j]) (.ref t) []:=by
 unfold RepF;exact⟨t,_,rfl,h,zaj.nil.cint.cint⟩
theorem zaj.lines {H:Hp} : ∀ {ls:List (List Int)}{vs:List V}{fp:List Addr},zaj H (ls.map nums) vs fp→vs=fp.map V.ref∧fp.length=ls.length∧∀ (i:Nat) (a:Addr),fp[i]?=some a→∃ l,ls[i]?=some l∧H a=some (.lst (l.map V.int))
 | [],_,_,h=>by
  rw[List.map_nil] at h;unfold zaj at h
  obtain⟨rfl,rfl⟩:=h
  exact⟨rfl,rfl,λi a e=>by simp at e⟩
 | l::ls,_,_,h=>by
  rw[zmc] at h;unfold zaj at h
  obtain⟨v,r,f,g,rfl,rfl,h1,h2⟩:=h
  obtain⟨rfl,e2,e3⟩:=zaj.lines h2
  unfold RepF at h1
  obtain⟨a,xs,r,rfl,rfl,e4,e5⟩:=h1
  obtain⟨rfl,rfl⟩:=zaj.ints_eq e5
  refine⟨rfl,by simp[e2],λi b e=>?_⟩
  cases i with
  | zero=>simp at e;subst e;exact⟨l,rfl,e4⟩
  | succ i=>exact e3 i b (by simpa using e)
theorem zgv {K:Fg} : PySem.W.kitOne K (.type "int") (.type "list")=some false:=by rfl
theorem zgw {K:Fg} : PySem.W.kitOne K (.type "str") (.type "list")=some false:=by rfl
theorem ze8 {K:Fg} : PySem.W.kitOne K (.type "tuple") (.type "list")=some false:=by rfl
theorem zkJ {K:Fg}{H:Hp}{Q:VK}{a:Addr}{ys:List V}(h:SqL K H a ys) (q:∀ l,H l=none→Q (.ref l) (upd H l (.tup ys))):zjD K [.ref a] H Q:=⟨a,ys,rfl,.inl ⟨h,q⟩⟩
theorem i_in {K:Fg}{H:Hp}{Q:VK}{neg:Bool}{x:V}{a:Addr}{xs:List V}(h:SqL K H a xs∨SqT K H a xs) (f1:zdh x=true) (f2:xs.all zdh=true) (q:Q (.bl (if neg then !inV x xs else inV x xs)) H):rIn K neg x (.ref a) H Q:=⟨a,xs,rfl,h,f1,f2,q⟩
theorem zjJ {X:Cx}{x:Str}{a:Addr}{pos:Pos}(hg:Gl X x) (hm:X.mg x=some (.ref a)) (hd:(x == ("__debug__" : Str))=false:=by decide):PE X (.Name x pos) (tC (.ref a)):=zi1 hg hm rfl hd
def News (H H':Hp) (ds:List D) (vs:List V):Prop:=∃ fp,zaj H' ds vs fp∧fp.Nodup∧∀ a∈fp,H a=none
theorem News.nil {H H':Hp} : News H H' [] []:=⟨[],zaj.nil,List.nodup_nil,λ_ m=>by cases m⟩
theorem News.same {H H1 H2:Hp}{ds:List D}{vs:List V}(e:Same H1 H2) (h:News H H1 ds vs):News H H2 ds vs:=by
 obtain⟨fp,h1,h2,h3⟩:=h
 refine⟨fp,zaj.frame e.tups ds (λa m=>?_) h1,h2,h3⟩
 obtain⟨o,ho⟩:=zaj.has ds h1 a m
 rw[ho,e a o ho]
theorem News.snoc {H H1 H2:Hp}{ds:List D}{vs:List V}{d:D}{v:V}(h:News H H1 ds vs) (e:Same H H1) (e2:Same H1 H2) (n:New H1 H2 d v):News H H2 (ds++[d]) (vs++[v]):=by
 obtain⟨fp,h1,h2,h3⟩:=h
 obtain⟨fq,g1,g2,g3⟩:=n
 have keep:∀ a∈fp,H2 a=H1 a:=λa m=>by
  obtain⟨o,ho⟩:=zaj.has ds h1 a m
  rw[ho,e2 a o ho]
 refine⟨fp++fq,(zaj.frame e2.tups ds keep h1).snoc g1,List.nodup_append.mpr ⟨h2,g2,λa ha b hb z=>?_⟩,λa m=>?_⟩
 ·subst z
  obtain⟨o,ho⟩:=zaj.has ds h1 a ha
  have:=g3 a hb
  rw[ho] at this;cases this
 ·rcases zma.mp m with m | m
  ·exact h3 a m
  ·exact e.free (g3 a m)
theorem News.lst {H H1:Hp}{ds:List D}{vs:List V}{a:Addr}(h:News H H1 ds vs) (e:Same H H1) (ha:H1 a=none):New H (upd H1 a (.lst vs)) (.lst ds) (.ref a):=by
 obtain⟨fp,h1,h2,h3⟩:=h
 have s:=zae ha (.lst vs)
 refine New.lst (zaj.frame s.tups ds (λb m=>?_) h1) h2 h3 (e.free ha) (λm=>?_) zac
 ·obtain⟨o,ho⟩:=zaj.has ds h1 b m
  rw[ho,s b o ho]
 ·obtain⟨o,ho⟩:=zaj.has ds h1 a m
  rw[ha] at ho;cases ho
theorem New.news {H H':Hp}{ds:List D}{v:V}(h:New H H' (.lst ds) v):∃ a vs,v=.ref a∧H a=none∧H' a=some (.lst vs)∧News H H' ds vs:=by
 obtain⟨a,vs,fp,e1,e2,e3,e4,e5,_,e6⟩:=New.lst_out h
 exact⟨a,vs,e1,e2,e3,fp,e4,e5,e6⟩
end L2

namespace L2
open PySem PySem.Spec PyProof.Rows
def seqO:HO→Bool
 | .lst _=>true
 | .tup _=>true
 | .frz _ _=>true
 | _=>false
def Sq (H H':Hp):Prop:=∀ b o,H b=some o→seqO o=true→H' b=some o
theorem Same.sq {H H':Hp}(e:Same H H'):Sq H H':=λb o h _=>e b o h
theorem Sq.trans {H H1 H2:Hp}(a:Sq H H1) (b:Sq H1 H2):Sq H H2:=λc o h q=>b c o (a c o h q) q
theorem zeN {H:Hp}{p:Addr}{o u:HO}(h:H p=some u) (n:seqO u=false):Sq H (upd H p o):=λb w e q=>by
 rw[zaw (λz=>by rw[z,h] at e;cases e;rw[n] at q;cases q)];exact e
theorem Sq.lst {K:Fg}{H H':Hp}{a:Addr}{xs:List V}(e:Sq H H') (h:SqL K H a xs):SqL K H' a xs:=by
 rcases h with (h | ⟨o,h⟩) | h
 ·exact .inl (.inl (e _ _ h rfl))
 ·exact .inl (.inr ⟨o,e _ _ h rfl⟩)
 ·exact .inr h
theorem Sq.tup {K:Fg}{H H':Hp}{a:Addr}{xs:List V}(e:Sq H H') (h:SqT K H a xs):SqT K H' a xs:=by
 rcases h with (h | ⟨o,h⟩) | h
 ·exact .inl (.inl (e _ _ h rfl))
 ·exact .inl (.inr ⟨o,e _ _ h rfl⟩)
 ·exact .inr h
mutual
theorem Rep.sq {K:Fg}{H H':Hp}(e:Sq H H'):∀ (d:D) {v:V},Rep K H d v→Rep K H' d v
 | .non,_,h=>by unfold Rep at *;exact h
 | .bl _,_,h=>by unfold Rep at *;exact h
 | .int _,_,h=>by unfold Rep at *;exact h
 | .str _,_,h=>by unfold Rep at *;exact h
 | .lst ds,_,h=>by
  unfold Rep at *
  obtain⟨a,xs,h1,h2,h3⟩:=h
  exact⟨a,xs,h1,e.lst h2,Reps.sq e ds h3⟩
 | .tup ds,_,h=>by
  unfold Rep at *
  obtain⟨a,xs,h1,h2,h3⟩:=h
  exact⟨a,xs,h1,e.tup h2,Reps.sq e ds h3⟩
theorem Reps.sq {K:Fg}{H H':Hp}(e:Sq H H'):∀ (ds:List D) {vs:List V},Reps K H ds vs→Reps K H' ds vs
 | [],_,h=>by unfold Reps at *;exact h
 | d::ds,_,h=>by
  unfold Reps at *
  obtain⟨v,r,h1,h2,h3⟩:=h
  exact⟨v,r,h1,Rep.sq e d h2,Reps.sq e ds h3⟩
end
mutual
theorem RepF.sq {H H':Hp}(e:Sq H H'):∀ (d:D) {v:V}{fp:List Addr},RepF H d v fp→RepF H' d v fp
 | .non,_,_,h=>by unfold RepF at *;exact h
 | .bl _,_,_,h=>by unfold RepF at *;exact h
 | .int _,_,_,h=>by unfold RepF at *;exact h
 | .str _,_,_,h=>by unfold RepF at *;exact h
 | .lst ds,_,_,h=>by
  unfold RepF at *
  obtain⟨a,xs,r,h1,h0,h2,h3⟩:=h
  exact⟨a,xs,r,h1,h0,e _ _ h2 rfl,zaj.sq e ds h3⟩
 | .tup ds,_,_,h=>by
  unfold RepF at *
  obtain⟨a,xs,h1,h2,h3⟩:=h
  exact⟨a,xs,h1,e _ _ h2 rfl,zaj.sq e ds h3⟩
theorem zaj.sq {H H':Hp}(e:Sq H H'):∀ (ds:List D) {vs:List V}{fp:List Addr},zaj H ds vs fp→zaj H' ds vs fp
 | [],_,_,h=>by unfold zaj at *;exact h
 | d::ds,_,_,h=>by
  unfold zaj at *
  obtain⟨v,r,f,g,h1,h0,h2,h3⟩:=h
  exact⟨v,r,f,g,h1,h0,RepF.sq e d h2,zaj.sq e ds h3⟩
end
def Free (H H':Hp):Prop:=∀ a,H' a=none→H a=none
theorem Same.fr {H H':Hp}(e:Same H H'):Free H H':=λ_ h=>e.free h
theorem Free.trans {H H1 H2:Hp}(a:Free H H1) (b:Free H1 H2):Free H H2:=λc h=>a c (b c h)
theorem zev {H:Hp}{p:Addr}{o:HO} : Free H (upd H p o):=λa h=>by
 by_cases e:a=p
 ·subst e;rw[zac] at h;cases h
 ·rw[zaw e] at h;exact h
theorem News.sq {H H1 H2:Hp}{ds:List D}{vs:List V}(e:Sq H1 H2) (h:News H H1 ds vs):News H H2 ds vs:=by
 obtain⟨fp,h1,h2,h3⟩:=h
 exact⟨fp,zaj.sq e ds h1,h2,h3⟩
theorem News.snoc' {H H1 H2:Hp}{ds:List D}{vs:List V}{d:D}{v:V}(h:News H H1 ds vs) (e:Free H H1) (e2:Same H1 H2) (n:New H1 H2 d v):News H H2 (ds++[d]) (vs++[v]):=by
 obtain⟨fp,h1,h2,h3⟩:=h
 obtain⟨fq,g1,g2,g3⟩:=n
 refine⟨fp++fq,(zaj.sq e2.sq ds h1).snoc g1,List.nodup_append.mpr ⟨h2,g2,λa ha b hb z=>?_⟩,λa m=>?_⟩
 ·subst z
  obtain⟨o,ho⟩:=zaj.has ds h1 a ha
  have:=g3 a hb
  rw[ho] at this;cases this
 ·rcases zma.mp m with m | m
  ·exact h3 a m
  ·exact e a (g3 a m)
theorem News.reps {K:Fg}{H H':Hp}{ds:List D}{vs:List V}(h:News H H' ds vs):Reps K H' ds vs:=let ⟨_,h,_⟩:=h;zaj.reps ds h
def Part (H:Hp) (d:D) (x:V):Prop:=(∃ i,d=.int i∧x=.int i)∨(∃ s,d=.str s∧x=.str s)∨(∃ b l,d=nums l∧x=.ref b∧H b=some (.lst (l.map V.int)))∨∃ b i j,d=.tup [.int i,.int j]∧x=.ref b∧H b=some (.tup [.int i,.int j])
def zb4 (H:Hp) (d:D) (v:V):Prop:=∃ t xs ds,d=.tup ds∧v=.ref t∧H t=some (.tup xs)∧ds.length=xs.length∧ds.length≤8∧∀ (i:Nat) dd x,ds[i]?=some dd→xs[i]?=some x→Part H dd x
theorem Part.sq {H H':Hp}(e:Sq H H') {d:D}{x:V}(h:Part H d x):Part H' d x:=by
 rcases h with h | h | ⟨b,l,h1,h2,h3⟩ | ⟨b,i,j,h1,h2,h3⟩
 ·exact .inl h
 ·exact .inr (.inl h)
 ·exact .inr (.inr (.inl ⟨b,l,h1,h2,e _ _ h3 rfl⟩))
 ·exact .inr (.inr (.inr ⟨b,i,j,h1,h2,e _ _ h3 rfl⟩))
theorem zb4.sq {H H':Hp}(e:Sq H H') {d:D}{v:V}(h:zb4 H d v):zb4 H' d v:=by
 obtain⟨t,xs,ds,h1,h2,h3,h4,h5,h6⟩:=h
 exact⟨t,xs,ds,h1,h2,e _ _ h3 rfl,h4,h5,λi dd x e1 e2=>(h6 i dd x e1 e2).sq e⟩
def zjK (d:D):Prop:=(∃ i,d=.int i)∨(∃ s,d=.str s)∨(∃ l,l.length=9∧d=nums l)∨∃ i j,d=.tup [.int i,.int j]
theorem zl4 {H:Hp}{d:D}{v:V}{fp:List Addr}(s:zjK d) (h:RepF H d v fp):Part H d v:=by
 rcases s with ⟨i,rfl⟩ | ⟨i,rfl⟩ | ⟨l,_,rfl⟩ | ⟨i,j,rfl⟩
 ·unfold RepF at h;exact .inl ⟨i,rfl,h.1⟩
 ·unfold RepF at h;exact .inr (.inl ⟨i,rfl,h.1⟩)
 ·unfold RepF at h
  obtain⟨a,xs,r,h1,_,h2,h3⟩:=h
  obtain⟨rfl,_⟩:=zaj.ints_eq h3
  exact .inr (.inr (.inl ⟨a,l,rfl,h1,h2⟩))
 ·unfold RepF at h
  obtain⟨a,xs,h1,h2,h3⟩:=h
  have q:=zaj.ints_eq (ns:=[i,j]) h3
  rw[q.1] at h2
  exact .inr (.inr (.inr ⟨a,i,j,rfl,h1,h2⟩))
theorem zhW {H:Hp} : ∀ {ds:List D}{xs:List V}{fp:List Addr},(∀ d∈ds,zjK d)→zaj H ds xs fp→∀ (i:Nat) dd x,ds[i]?=some dd→xs[i]?=some x→Part H dd x
 | [],_,_,_,_,i,dd,x,e,_=>by simp at e
 | d::ds,_,_,s,h,i,dd,x,e1,e2=>by
  unfold zaj at h
  obtain⟨v,r,f,g,rfl,_,h1,h2⟩:=h
  cases i with
  | zero=>simp at e1 e2;subst e1;subst e2;exact zl4 (s d List.mem_cons_self) h1
  | succ i=>exact zhW (λc hc=>s c (List.mem_cons_of_mem _ hc)) h2 i dd x (by simpa using e1) (by simpa using e2)
def Deed (d:D):Prop:=∃ ds,d=.tup ds∧ds.length≤8∧∀ c∈ds,zjK c
theorem zjL {H:Hp}{d:D}{v:V}{fp:List Addr}(s:Deed d) (h:RepF H d v fp):zb4 H d v:=by
 obtain⟨ds,rfl,h8,hs⟩:=s
 unfold RepF at h
 obtain⟨a,xs,h1,h2,h3⟩:=h
 exact⟨a,xs,ds,rfl,h1,h2,h3.length,h8,zhW hs h3⟩
def Acc (H:Hp) (da:Addr) (H2:Hp) (ds:List D) (vs:List V):Prop:=∃ fp,H2 da=some (.lst vs)∧zaj H2 ds vs fp∧fp.Nodup∧da∉fp∧∀ b∈fp,H b=none
theorem Acc.new {H H2:Hp}{da:Addr}{ds:List D}{vs:List V}(a:Acc H da H2 ds vs) (h:H da=none):New H H2 (.lst ds) (.ref da):=by
 obtain⟨fp,h1,h2,h3,h4,h5⟩:=a
 exact New.lst h2 h3 h5 h h4 h1
def is9 (H:Hp) (b:Addr):Prop:=∃ l:List Int,l.length=9∧H b=some (.lst (l.map V.int))
structure Mt (S:Addr→Prop) (Hs H:Hp):Prop where
 off:∀ b o,¬ S b→Hs b=some o→H b=some o
 on:∀ b,S b→is9 H b
theorem Mt.set {S:Addr→Prop}{Hs H:Hp}(m:Mt S Hs H) {b:Addr}(hb:S b) {l:List Int}(hl:l.length=9) (x:Int):Mt S Hs (upd H b (.lst ((l.map V.int).set 0 (.int x)))) where
 off:=λc o hc e=>by rw[zaw (λz=>hc (by rw[z];exact hb))];exact m.off c o hc e
 on:=λc hc=>by
  by_cases e:c=b
  ·subst e
   refine⟨l.set 0 x,by rw[List.length_set];exact hl,?_⟩
   rw[zac,List.map_set]
  ·obtain⟨l',h1,h2⟩:=m.on c hc
   exact⟨l',h1,by rw[zaw e];exact h2⟩
theorem zkK {H:Hp}{b:Addr}{xs:List V}(h:H b=some (.tup xs)):¬ is9 H b:=λ⟨l,_,e⟩=>by rw[h] at e;cases e
theorem zkL {H:Hp}{b:Addr}{xs:List V}(h:H b=some (.lst xs)) (hx:∀ x∈xs,∀ i,x≠.int i):¬ is9 H b:=λ⟨l,hl,e⟩=>by
 rw[h] at e
 cases e
 cases l with
 | nil=>simp at hl
 | cons i r=>exact hx (.int i) (by simp) i rfl
theorem is9.cons {H:Hp}{b:Addr}(h:is9 H b):∃ (x:Int) (r:List Int),r.length=8∧H b=some (.lst ((x::r).map V.int)):=by
 obtain⟨l,hl,e⟩:=h
 cases l with
 | nil=>simp at hl
 | cons x r=>exact⟨x,r,by simpa using hl,e⟩
theorem is9.same {H H':Hp}{b:Addr}(s:Same H H') (h:is9 H b):is9 H' b:=by
 obtain⟨l,hl,e⟩:=h
 exact⟨l,hl,s _ _ e⟩
theorem zlk {H:Hp}{d1 d2 d3 d4:D}{vs:List V}{fp:List Addr}(h:zaj H [d1,d2,d3,d4] vs fp):∃ x1 x2 x3 x4 f1 f2 f3 f4,vs=[x1,x2,x3,x4]∧RepF H d1 x1 f1∧RepF H d2 x2 f2∧RepF H d3 x3 f3∧RepF H d4 x4 f4:=by
 unfold zaj at h
 obtain⟨x1,_,f1,_,rfl,_,h1,h⟩:=h
 unfold zaj at h
 obtain⟨x2,_,f2,_,rfl,_,h2,h⟩:=h
 unfold zaj at h
 obtain⟨x3,_,f3,_,rfl,_,h3,h⟩:=h
 unfold zaj at h
 obtain⟨x4,_,f4,_,rfl,_,h4,h⟩:=h
 unfold zaj at h
 obtain⟨rfl,_⟩:=h
 exact⟨x1,x2,x3,x4,f1,f2,f3,f4,rfl,h1,h2,h3,h4⟩
theorem RepF.lst_out {H:Hp}{ds:List D}{x:V}{fp:List Addr}(h:RepF H (.lst ds) x fp):∃ b xs r,x=.ref b∧H b=some (.lst xs)∧zaj H ds xs r:=by
 unfold RepF at h
 obtain⟨b,xs,r,e1,_,e3,e4⟩:=h
 exact⟨b,xs,r,e1,e3,e4⟩
theorem zaj.item {H:Hp} : ∀ {ds:List D}{xs:List V}{fp:List Addr},zaj H ds xs fp→∀ (i:Nat) d x,ds[i]?=some d→xs[i]?=some x→∃ f,RepF H d x f
 | [],_,_,_,i,d,x,e,_=>by simp at e
 | c::ds,_,_,h,i,d,x,e1,e2=>by
  unfold zaj at h
  obtain⟨v,r,f,g,rfl,_,h1,h2⟩:=h
  cases i with
  | zero=>simp at e1 e2;subst e1;subst e2;exact⟨f,h1⟩
  | succ i=>exact zaj.item h2 i d x (by simpa using e1) (by simpa using e2)
theorem zir {b:Bool}{X Y:Prop}(h1:b=true→X) (h2:b=false→Y):(if b=true then X else Y):=by
 cases b with
 | true=>exact iteT (h1 rfl)
 | false=>exact iteF (h2 rfl)
end L2

namespace L2
open PySem PySem.Spec PyProof.Rows PySem.W
theorem zbL.has {P:Program}{w:World}{H:Hp}{h:Heap}{a:Addr}{o:HO}(x:zbL P w H h a o):∃ u,h.get? a=some u:=by
 cases o with
 | lst xs=>obtain⟨_,_,_,_,e⟩:=x;exact⟨_,e⟩
 | tup xs=>obtain⟨_,_,_,_,e,_⟩:=x;exact⟨_,e⟩
 | dK kvs=>obtain⟨_,_,_,_,o,_,_,e,_⟩:=x;exact⟨_,e⟩
 | dT kvs=>obtain⟨_,_,_,_,o,_,_,e,_⟩:=x;exact⟨_,e⟩
 | set S n=>obtain⟨o,_,_,_,e,_⟩:=x;exact⟨_,e⟩
 | ins C dx fs=>obtain⟨_,_,_,e,_⟩:=x;exact⟨_,e⟩
 | own y=>obtain⟨_,e⟩:=x;exact⟨_,e⟩
 | xd fs=>obtain⟨_,⟨_,_,_,e,_⟩,_⟩:=x;exact⟨_,e⟩
 | rng lo hi=>obtain⟨_,_,_,e⟩:=x;exact⟨_,e⟩
 | frz ob u=>obtain⟨e,_⟩:=x;exact⟨_,e⟩
 | tbl ps=>exact⟨_,show h.get? a=some _ from x⟩
 | met f y=>exact⟨_,show h.get? a=some _ from x⟩
 | ext φ=>obtain⟨_,⟨_,e⟩,_⟩:=x;exact⟨_,e⟩
def zgx (h:Heap) (e T:Addr) (cls fl:Value):Prop:=∃ oe vs oT ts,h.get? e=some oe∧oe.cls=cls∧oe.dict=none∧oe.data=.fields vs∧vs[1]?=some (.ref T)∧T≠e∧h.get? T=some oT∧oT.data=.fields ts∧ts[3]?=some fl
def zeO (fr as:List Addr) (h h':Heap):Prop:=(∀ b o,h.get? b=some o→b∉fr→b∉as→h'.get? b=some o)∧∀ b o,h.get? b=some o→b∈fr→b∉as→∃ sl,h'.get? b=some {o with slots:=sl}
theorem zeO.up {fr as:List Addr}{h h':Heap}(k:zeO fr as h h') {b:Addr}{o:Obj}(e:h.get? b=some o) (n:b∉as):∃ sl,h'.get? b=some {o with slots:=sl}:=by
 by_cases m:b∈fr
 ·exact k.2 b o e m n
 ·exact⟨o.slots,k.1 b o e m n⟩
section
variable {M : Model} {A : Around} {E : Value → Shared → Prop} {s : Shared}
theorem zgy {base:Heap}{env:Env}{outer:List Env}{L e:Addr}{oe:Obj}{vs:Array Value}{head:Value}{hadNext:Bool}{Q:Unit→Shared→Prop}(hfr:A.frames=some (env::outer)) (hl:s.heap.FunFrames base (env::outer)) (hf:env.frame=some L)
  (he:s.heap.get? e=some oe) (hd:oe.data=.fields vs) (hsz:1<vs.size) (hdi:oe.dict=none)
  (h:∀ h' T,s.heap.get? T=none→zgx h' e T oe.cls (rawInt L)→zeO (frs (env::outer)) [e] s.heap h'→Q () {s with heap:=h'}) :
  wpAny M A (do let a ←frameOf env;let pl ←entryPlaceOf L hadNext;let b ←EntryCells.newEntry head a .none (rawInt L) .none pl;setField (.ref e) 1 b) Q E s:=by
 have hene:e∉(env::outer).filterMap (·.frame):=λhm=>by
  obtain⟨_,o,ho,hnf⟩:=hl.mem hm
  rw[he] at ho;injection ho with ho;subst ho;exact hnf vs hd
 refine wpAny_bind (wpAny_frameOf_fun hfr hl hf λh₁ hs₁=>?_)
 refine wpAny_bind (wpAny_entryPlaceOf λpl hpl=>?_)
 unfold EntryCells.newEntry newFields
 refine wpAny_bind (wpAny_newObj_type ?_ (hpl.sizeOk5 _ _ _ _ _))
 have he₁:h₁.get? e=some oe:=(hs₁.2.1 e hene).trans he
 have he₂:=Heap.get?_push_of_some (h:=h₁) {cls:=.type "traceback",dict:=none,data:=.fields ([head,.ref L,.none,rawInt L,.none]++(if pl.isEmpty then List.replicate 6 Value.none else pl)).toArray} he₁
 refine wpAny_setField he₂ hd hsz (h _ h₁.objs.size (Heap.get?_none_of_le (by rw[hs₁.1];exact Nat.le_refl _)) ?_ ?_)
 ·have hTe:h₁.objs.size≠e:=Nat.ne_of_gt (Heap.lt_size he₁)
  have hd₃:=Obj.data_mapFields hd (·.setIfInBounds 1 (Value.ref h₁.objs.size))
  have he₃:=Heap.get?_update_self (Obj.mapFields (·.setIfInBounds 1 (Value.ref h₁.objs.size))) he₂ (Obj.isFreed_of_fields hd₃)
  have hT₃:=(Heap.get?_update_other (h₁.push {cls:=.type "traceback",dict:=none,data:=.fields ([head,.ref L,.none,rawInt L,.none]++(if pl.isEmpty then List.replicate 6 Value.none else pl)).toArray})
   (Obj.mapFields (·.setIfInBounds 1 (Value.ref h₁.objs.size))) (Ne.symm hTe)).trans (Heap.get?_push_size h₁ rfl)
  refine⟨_,_,_,_,he₃,Obj.cls_mapFields _ _,?_,hd₃,by simp[hsz],hTe,hT₃,rfl,by first | (simp;done) | (rcases hpl with rfl | ⟨_,_,_,_,_,_,_,rfl⟩ <;> simp)⟩
  obtain⟨c,di,dt,sl⟩:=oe
  cases hd
  exact hdi
 ·have keep:∀ b o,b≠e→h₁.get? b=some o→((h₁.push {cls:=.type "traceback",dict:=none,data:=.fields ([head,.ref L,.none,rawInt L,.none]++(if pl.isEmpty then List.replicate 6 Value.none else pl)).toArray}).update e (Obj.mapFields (·.setIfInBounds 1 (Value.ref h₁.objs.size)))).get? b=some o:=λb o hbe hb=>by
   rw[Heap.get?_update_other _ _ (Ne.symm hbe)]
   exact Heap.get?_push_of_some _ hb
  refine⟨λb o eb n1 n2=>keep b o (λz=>n2 (by simp[z])) ((hs₁.2.1 b n1).trans eb),λb o eb m n=>?_⟩
  obtain⟨sl,hsl⟩:=hs₁.2.2 b o eb
  exact⟨sl,keep b _ (λz=>n (by simp[z])) hsl⟩
theorem zfJ {fr:List Addr}{e T:Addr}{cls fl:Value}{Q:Unit→Shared→Prop}(F:zgx s.heap e T cls fl) (h:∀ h',zgx h' e T cls .none→zeO fr [T] s.heap h'→Q () {s with heap:=h'}):wpAny M A (setFlight (.ref e) none) Q E s:=by
 obtain⟨oe,vs,oT,ts,he,hcls,hdi,hd,h1,hTe,hT,hdT,h3⟩:=F
 have hsz3:3<ts.size:=(Array.getElem?_eq_some_iff.mp h3).1
 have other:∀ b,b≠T→(s.heap.update T (Obj.mapFields (·.setIfInBounds 3 ((none:Option Addr).elim Value.none λf=>rawInt f)))).get? b=s.heap.get? b:=λb hb=>Heap.get?_update_other _ _ (Ne.symm hb)
 unfold setFlight
 refine wpAny_bind (wpAny_field he hd h1 ?_)
 rw[if_pos (show (Value.ref T != Value.none)=true from by simp)]
 refine wpAny_setField hT hdT hsz3 (h _ ?_ ⟨λb o e n1 n2=>(other b (λz=>n2 (by simp[z]))).trans e,λb o e m n=>⟨o.slots,(other b (λz=>n (by simp[z]))).trans e⟩⟩)
 exact⟨oe,vs,_,_,(other e (Ne.symm hTe)).trans he,hcls,hdi,hd,h1,hTe,Heap.get?_update_self _ hT (Obj.isFreed_of_fields (Obj.data_mapFields hdT _)),Obj.data_mapFields hdT _,by simp[hsz3]⟩
theorem zkM {base:Heap}{env:Env}{outer:List Env}{L e T:Addr}{cls:Value}{Q:Unit→Shared→Prop}(hfr:A.frames=some (env::outer)) (hl:s.heap.FunFrames base (env::outer)) (hf:env.frame=some L) (F:zgx s.heap e T cls .none)
  (h:∀ h' T',s.heap.get? T'=none→zgx h' e T' cls (rawInt L)→zeO (frs (env::outer)) [e,T] s.heap h'→Q () {s with heap:=h'}):wpAny M A (noteFrame (.ref e) env) Q E s:=by
 obtain⟨oe,vs,oT,ts,he,hcls,hdi,hd,h1,hTe,hT,hdT,h3⟩:=F
 subst hcls
 have hsz3:3<ts.size:=(Array.getElem?_eq_some_iff.mp h3).1
 have other:∀ b,b≠T→(s.heap.update T (Obj.mapFields (·.setIfInBounds 3 Value.none))).get? b=s.heap.get? b:=λb hb=>Heap.get?_update_other _ _ (Ne.symm hb)
 have noRecord:∀ b o,s.heap.get? b=some o→(∀ vs,o.data≠.fields vs)→b≠T:=λb o hb hnf q=>by
  rw[q,hT] at hb;injection hb with hb;subst hb;exact hnf ts hdT
 unfold noteFrame
 simp only[hf]
 refine wpAny_bind (wpAny_field he hd h1 ?_)
 rw[if_pos (show (Value.ref T != Value.none)=true from by simp)]
 refine wpAny_bind (wpAny_field hT hdT h3 ?_)
 rw[if_neg (show ¬ ((Value.none == rawInt L)=true) from by simp[rawInt])]
 refine wpAny_bind (wpAny_setField hT hdT hsz3 ?_)
 refine zgy hfr (hl.of_keeps λb o hb hnf=>⟨o,(other b (noRecord b o hb hnf)).trans hb,rfl⟩) hf ((other e (Ne.symm hTe)).trans he) hd (Array.getElem?_eq_some_iff.mp h1).1 hdi λh' T' n F' k=>?_
 have nT':s.heap.get? T'=none:=by
  by_cases z:T'=T
  ·subst z
   rw[Heap.get?_update_self _ hT (Obj.isFreed_of_fields (Obj.data_mapFields hdT _))] at n
   cases n
  ·rw[←other T' z];exact n
 refine h h' T' nT' F' ⟨λb o eb n1 n2=>k.1 b o ((other b (λz=>n2 (by simp[z]))).trans eb) n1 (λz=>n2 (by simp at z;simp[z])),λb o eb m n2=>k.2 b o ((other b (λz=>n2 (by simp[z]))).trans eb) m (λz=>n2 (by simp at z;simp[z]))⟩
end
def Fly (h0 h:Heap) (H:Hp) (e:Addr) (cls:Value):Prop:=∃ T,zgx h e T cls .none∧H e=none∧H T=none∧h0.get? e=none∧h0.get? T=none
def CX1 (P:Program) (w:World):CXT:=λouter H s E e s'=>∃ a C H',e=.ref a∧s'.os=s.os∧AllBare s'.gens∧Un (frs outer) [] H H' s.heap s'.heap∧HOk P w H' s'.heap∧Fly s.heap s'.heap H' a C∧E C none H'
section
variable {P : Program} {w : World} {K : Fg} {mg : Str → Option Value} {base : Heap} {N : List Str} {qual : Str} {scope : Scope} {f : Addr} {cd : Value} {A : Around} {outer : List Env} {s : Shared} {H : Hp} {E : XK}
theorem zll {X:Cx}{pins:List (Addr × Obj)}{σ:St}{H2:Hp}{s2:Shared}(I:Inv X pins σ H2 s2) (hex:X.ex=[]) {b:Addr}(n:s2.heap.get? b=none):X.s₀.heap.get? b=none:=by
 cases z:X.s₀.heap.get? b with
 | none=>rfl
 | some o=>
  obtain⟨u,hu⟩:=I.base.there b o z (by rw[hex];simp)
  rw[n] at hu;cases hu
theorem znC {X:Cx}{pins:List (Addr × Obj)}{σ:St}{H2:Hp}{s2:Shared}(I:Inv X pins σ H2 s2) {b:Addr}(n:s2.heap.get? b=none):H2 b=none:=by
 cases z:H2 b with
 | none=>rfl
 | some o=>
  obtain⟨u,hu⟩:=(I.hok b o z).has
  rw[n] at hu;cases hu
theorem zl5 {pins:List (Addr × Obj)}{σ:St}{H2:Hp}{s2:Shared}{h':Heap}{as:List Addr}{a T:Addr}{C:Value}(I:Inv (cxOf (CX1 P w) P w K mg base N qual scope f cd A outer s H E) pins σ H2 s2) (hx:H2 a=none) (hx0:s.heap.get? a=none) (has:∀ b∈as,H2 b=none∧s.heap.get? b=none)
  (nT:s2.heap.get? T=none) (F:zgx h' a T C .none) (L:zeO (frs (cxOf (CX1 P w) P w K mg base N qual scope f cd A outer s H E).stack) as s2.heap h') (q:E C none H2):CX1 P w outer H s E (.ref a) {s2 with heap:=h'}:=by
 have fr:∀ b,b∈frs (cxOf (CX1 P w) P w K mg base N qual scope f cd A outer s H E).stack→b=s.heap.objs.size∨b∈frs outer:=λb hb=>by
  obtain⟨ev,he,hf⟩:=List.mem_filterMap.mp hb
  rcases List.mem_cons.mp he with z | z
  ·subst z;exact .inl (Option.some.inj hf).symm
  ·exact .inr (List.mem_filterMap.mpr ⟨ev,z,hf⟩)
 have nsz:s.heap.get? s.heap.objs.size=none:=Heap.get?_none_of_le (Nat.le_refl _)
 have hidden:∀ b,s.heap.get? b≠none→b∉as:=λb n m=>n (has b m).2
 refine⟨a,C,H2,rfl,I.os,I.bare,⟨λb o e n nf _=>?_,λb o e n nf _=>?_,λb o e n _=>I.base.free b o e n (by intro m;cases m),λb o e _=>?_,I.base.tups,I.base.frzs,I.base.tbls⟩,λb u e=>?_,⟨T,F,hx,znC I nT,hx0,zll I rfl nT⟩,q⟩
 ·refine L.1 b o (I.base.keep b o e n nf (by intro m;cases m)) (λm=>?_) (hidden b (by rw[e];simp))
  rcases fr b m with z | z
  ·subst z;rw[nsz] at e;cases e
  ·exact nf z
 ·obtain⟨sl,e'⟩:=I.base.slot b o e n nf (by intro m;cases m)
  obtain⟨sl2,e2⟩:=L.up e' (hidden b (by rw[e];simp))
  exact⟨sl2,e2⟩
 ·obtain⟨o2,h2⟩:=I.base.there b o e (by intro m;cases m)
  obtain⟨sl,e5⟩:=L.up h2 (hidden b (by rw[e];simp))
  exact⟨_,e5⟩
 ·refine (I.hok b u e).stay (λc v hc q=>L.1 c v q (λm=>?_) (λm=>?_)) (λ_ q=>q) λ_ _ q=>q
  ·have:=I.stkFree c m
   rcases hc with z | z
   ·subst z;rw[e] at this;cases this
   ·rw[z] at this;cases this
  ·have:=(has c m).1
   rcases hc with z | z
   ·subst z;rw[e] at this;cases this
   ·rw[z] at this;cases this
theorem zjM {pins:List (Addr × Obj)}{σ:St}{H2:Hp}{s2:Shared}{h3:Heap}{a:Addr}{C:Value}{args:List Value}(I:Inv (cxOf (CX1 P w) P w K mg base N qual scope f cd A outer s H E) pins σ H2 s2) (M:Heap.MadeExcOf s2.heap h3 a C args) (q:E C none H2):(cxOf (CX1 P w) P w K mg base N qual scope f cd A outer s H E).xe (.ref a) {s2 with heap:=h3}:=by
 obtain⟨t,he,htn,ht⟩:=M.there
 have I3:Inv (cxOf (CX1 P w) P w K mg base N qual scope f cd A outer s H E) pins σ H2 {s2 with heap:=h3}:=I.un (h':=h3) (t':=s2.toks) (Un.kept M.keeps) (I.hok.kept M.keeps)
 have hx:=znC I M.new
 have hx0:s.heap.get? a=none:=zll I rfl M.new
 show wpAny _ _ (leaving _ _) _ _ _
 unfold leaving noteFrame
 show wpAny _ _ ((do let head ←field (.ref a) 1;_) >>= _) _ _ _
 refine wpAny_bind (wpAny_bind (wpAny_field he rfl (x:=.none) rfl ?_))
 rw[if_neg (by decide)]
 refine zgy (outer:=outer) I3.ok.frames I3.stack rfl he rfl (by simp) rfl λh1 T1 n1 F1 k1=>?_
 refine zfJ (fr:=frs (cxOf (CX1 P w) P w K mg base N qual scope f cd A outer s H E).stack) F1 λh2 F2 k2=>?_
 have n1':h3.get? T1=none:=n1
 refine zl5 (s2:={s2 with heap:=h3}) (h':=h2) (as:=[a]) I3 hx hx0 (λb m=>by rw[zms.mp m];exact⟨hx,hx0⟩) n1' F2 ⟨λb o e m n=>k2.1 b o (k1.1 b o e m n) m (λz=>by rw[zms.mp z] at e;rw[show h3.get? T1=some o from e] at n1';cases n1'),λb o e m n=>?_⟩ q
 obtain⟨sl,e1⟩:=k1.2 b o e m n
 obtain⟨sl2,e2⟩:=k2.up e1 (λz=>by rw[zms.mp z] at e;rw[show h3.get? T1=some o from e] at n1';cases n1')
 exact⟨sl2,e2⟩
end
end L2

namespace L2
open PySem PySem.Spec PyProof.Rows PySem.W
structure Err (K:Fg) (C:Addr) (anc:List Value):Prop where
 ob:∃ nm q N bs hdct sn sub ab col dd k0 k1 k2 k3 k5,K.lookup C=some (excClassObj nm q C N bs anc hdct sn sub ab col dd k0 k1 k2 k3 k5 "ValueError.__new__")
 ex:excIn K C zcJ "ValueError.__new__"=true
theorem Err.obj {K:Fg}{C:Addr}{anc:List Value}{h:Heap}(X:K.In h) (e:Err K C anc):∃ nm q N bs hdct sn sub ab col dd k0 k1 k2 k3 k5 mN,h.get? C=some (excClassObj nm q C N bs anc hdct sn sub ab col dd k0 k1 k2 k3 k5 "ValueError.__new__")∧h.Ns N mN∧mN "__init__"=none∧OwnTail h zcJ anc:=by
 obtain⟨⟨nm,q,N,bs,hdct,sn,sub,ab,col,dd,k0,k1,k2,k3,k5,l⟩,x⟩:=e
 unfold excIn at x
 rw[l] at x
 simp only[Bool.and_eq_true,beq_iff_eq,Bool.not_eq_true'] at x
 obtain⟨⟨⟨_,ht⟩,hok⟩,hni⟩:=x
 exact⟨nm,q,N,bs,hdct,sn,sub,ab,col,dd,k0,k1,k2,k3,k5,_,X _ _ l,.of_isNs (isNs_of_in X hok),nsMap_none_of_in X hok hni,tail_of_in X ht⟩
def zln (X:Cx) (E:XK):Prop:=∀ (pins:List (Addr × Obj)) (σ:St) (H:Hp) (s:Shared) (h':Heap) (a:Addr) (C:Value) (args:List Value),Inv X pins σ H s→Heap.MadeExcOf s.heap h' a C args→E C none H→X.xe (.ref a) {s with heap:=h'}
theorem zl6 {P:Program}{w:World}{K:Fg}{mg:Str→Option Value}{base:Heap}{N:List Str}{qual:Str}{scope:Scope}{f:Addr}{cd:Value}{A:Around}{outer:List Env}{s:Shared}{H:Hp}{E:XK} :
  zln (cxOf (CX1 P w) P w K mg base N qual scope f cd A outer s H E) E:=λ_ _ _ _ _ _ _ _ I M q=>zjM I M q
def zlo (C:Value) (E:XK) (t:TA):TS:=λ_ σ H=>t σ H λvs H1=>vs.length≤sizeLine∧E C none H1
section
variable {X : Cx} {x : Str} {np cpos pos : Pos} {e0 : Expr} {rest : List Expr} {C : Addr} {anc : List Value} {E : XK} {t : TA}
theorem zkN (c:Err X.K C anc) (hg:Gl X x) (hm:X.mg x=some (.ref C)) (hc:X.calm=true) (ht:zln X E) (ha:PA X (e0::rest) t) (he:starEach (e0::rest) X.env=(false,eval e0 X.env)::starEach rest X.env:=by rfl)
  (hpl:(backTo cpos (starEach rest X.env)).any (·.1)=false:=by rfl) (hd:(x == ("__debug__" : Str))=false:=by decide):PS X (.Raise (some (.Call (.Name x np) (e0::rest) [] cpos)) none pos) (zlo (.ref C) E t):=by
 intro pins s σ H D I h
 obtain⟨nm,q,N,bs,hdct,sn,sub,ab,col,dd,k0,k1,k2,k3,k5,mN,hC,hN,hni,T⟩:=c.obj I.ok.mod.kin
 refine wpAny_Raise_call_subT (C:=C) (nm:=nm) (q:=q) (N:=N) (bs:=bs) (bm:=anc) (hdct:=hdct) (sn:=sn) (sub:=sub) (ab:=ab) (col:=col) (dd:=dd) (k0:=k0) (k1:=k1) (k2:=k2) (k3:=k3) (k5:=k5)
  PySem.F.excBase_ValueError (mN:=mN) (T.hasType PySem.F.excBase_ValueError.hasBase) (I.ok.hd hc) (by rw[he];show (false || (backTo cpos (starEach rest X.env)).any (·.1))=false;rw[hpl];rfl) hni (zd1 I hg hm ⟨rfl,?_⟩ hd)
 have h2:=ha cpos pins s σ H _ I h
 rw[he] at h2 ⊢
 refine Calls.evalArgs_plain (wpAny_mono h2 (λus s2 h2=>?_) λ_ _ y=>y)
 obtain⟨vs,H1,I1,r,z,q⟩:=h2
 exact⟨rfl,by rw[←r.length];exact z,I1.bk _ _ hC,hN.keeps I1.bk,T.keeps I1.bk,λh' e M=>ht pins σ H1 s2 h' e _ _ I1 M q⟩
end
section
variable {P : Program} {w : World} {K : Fg} {mg : Str → Option Value} {base : Heap}
theorem Fun.okx {x qual:Str}{st:Stmt}{f:Addr}{fd:FuncData}{N ps:List Str}{k:Nat}{sp:Sp}(F:Fun K x qual st f fd) (S:FnScope N ps (zaf st)) (len:∀ vs H Q E,sp vs H Q E→vs.length=ps.length)
  (hbody:∀ (cdv:Value) (A:Around) (outer:List Env) (s:Shared) (H:Hp) (vs:List V) (Q:VK) (E:XK),Room k (A.deeper (envOfC qual (zaf st) s.heap.objs.size f cdv))→sp vs H Q E→
   ∃ t,PSs (cxOf (CX1 P w) P w K mg base N qual (zaf st) f cdv A outer s H E) (zat st) t∧t {nx:=λ_ H'=>Q .non H',rt:=Q} (start N vs) H):FnOk P w K mg base (CX1 P w) (k+1) f fd ps sp:=by
 obtain⟨oc,od,kV,doc,pm,an,cdv,ct,osl,rfl,lk,hcd⟩:=F.ex
 exact zmO lk hcd S len λA outer s H vs Q E hr hsp=>hbody cdv A outer s H vs Q E hr hsp
end
structure Fnx (P:Program) (w:World) (K:Fg) (mg:Str→Option Value) (base:Heap) (x:Str) (ps:List Str) (k:Nat) (sp:Sp):Prop where
 ex:∃ f fd,FnOk P w K mg base (CX1 P w) k f fd ps sp∧zez K fd ps []∧PySem.W.keepIn K (.ref f)=true∧mg x=some (.ref f)
section
variable {X : Cx} {CX : CXT} {k j : Nat} {C : Addr} {ps : List Str} {sp : Sp} {E : XK} {x m : Str} {p pos apos : Pos} {e o : Expr} {es : List Expr} {ta : TE} {t : TA}
theorem zlp (G:Fnx X.prog X.w X.K X.mg X.base x ps j sp) (hr:Room k X.A) (hg:Gl X x) (hx:zeA (CX1 X.prog X.w) X E) (ha:PA X (e::es) t) (hj:j≤k:=by decide) (hdb:(x == ("__debug__" : Str))=false:=by decide)
  (he:starEach (e::es) X.env=(false,eval e X.env)::starEach es X.env:=by rfl) (hpl:(backTo pos (starEach es X.env)).any (·.1)=false:=by rfl):PE X (.Call (.Name x p) (e::es) [] pos) (zih sp [] E t):=by
 obtain⟨f,fd,F,hb,hk,hm⟩:=G.ex
 exact zjh (F.mono hj) hr hg hm hk hb .nil hx ha hdb he hpl
end
end L2

namespace L2
open PySem PySem.Spec PyProof.Rows PySem.W
section
variable {M : Model} {A : Around} {E : Value → Shared → Prop} {h : Heap} {g : Array GenState} {d : Drawn} {t : Nat} {os : OsState}
variable {nm q nm' q' : Str} {C N D N' : Addr} {bs bm bs' bm' : List Value} {hdct hdct' : Bool} {sn sn' : List Str} {sub sub' : List Value} {ab ab' : Bool} {col col' : Option Bool} {dd dd' : Option Addr} {k0 k1 k2 k3 k5 l0 l1 l2 l3 l5 : Option Value} {newId newId' : String}
theorem ze9 {e:Addr}{oe:Obj}{Q:Bool→Shared→Prop}(hC:h.get? C=some (excClassObj nm q C N bs bm hdct sn sub ab col dd k0 k1 k2 k3 k5 newId)) (hD:h.get? D=some (excClassObj nm' q' D N' bs' bm' hdct' sn' sub' ab' col' dd' l0 l1 l2 l3 l5 newId'))
  (he:h.get? e=some oe) (hcls:oe.cls=.ref C) (hbase:bm'.contains (.type "BaseException")=true) (hq:Q ((Value.ref C::bm).contains (.ref D)) ⟨h,g,d,t,os⟩):wpAny M A (excMatches (.ref e) (.ref D)) Q E ⟨h,g,d,t,os⟩:=by
 have hcB:(Value.ref D::bm').contains (.type "BaseException")=true:=by rw[List.contains_cons,hbase,Bool.or_true]
 have f:=tc_notTuple
 unfold excMatches
 generalize hb:(Value.ref C::bm).contains (.ref D)=b at hq
 repeat (first | (with_reducible refine wpAny_loadPart_at he ?_;rw[hcls]) | with_reducible refine wpAny_loadPart_at hD ?_ | (with_reducible refine wpAny_isSubtype_exc hD ?_;rw[hcB]) | (with_reducible refine wpAny_isSubtype_exc hC ?_;rw[hb]) | wp_step)
 cases b <;> (wp_walk;exact hq)
end
section
variable {X : Cx} {pins : List (Addr × Obj)} {σ : St} {H : Hp} {s : Shared}
def zis (X:Cx) (pins:List (Addr × Obj)) (H:Hp) (b:Addr):Prop:=H b=none∧X.s₀.heap.get? b=none∧b≠X.env.locals∧(∀ x c,X.env.cells.lookup x=some c→c≠b)∧(∀ p∈X.pn++pins,p.1≠b)
theorem zhX {H1:Hp}{b:Addr}(I:Inv X pins σ H1 s) (hex:X.ex=[]) (n:s.heap.get? b=none) (hH:H b=none):zis X pins H b:=by
 refine⟨hH,?_,λz=>?_,λx c e z=>?_,λp hp z=>?_⟩
 ·cases q:X.s₀.heap.get? b with
  | none=>rfl
  | some o=>
   obtain⟨u,hu⟩:=I.base.there b o q (by rw[hex];simp)
   rw[n] at hu;cases hu
 ·subst z
  obtain⟨m,⟨o,es,ep,ho,_⟩,_⟩:=I.loc
  rw[n] at ho;cases ho
 ·subst z
  obtain⟨v,o,ho,_⟩:=I.cell x c e
  rw[n] at ho;cases ho
 ·have:=(I.pin p hp).1
  rw[z,n] at this;cases this
theorem Inv.shift {h':Heap}{as:List Addr}(I:Inv X pins σ H s) (keep:∀ b o,s.heap.get? b=some o→b∉frs X.stack→b∉as→h'.get? b=some o) (slot:∀ b o,s.heap.get? b=some o→b∈frs X.stack→b∉as→∃ sl,h'.get? b=some {o with slots:=sl})
  (has:∀ b∈as,zis X pins H b):Inv X pins σ H {s with heap:=h'}:=by
 have up:∀ b o,s.heap.get? b=some o→b∉as→∃ sl,h'.get? b=some {o with slots:=sl}:=λb o e n=>by
  by_cases m:b∈frs X.stack
  ·exact slot b o e m n
  ·exact⟨o.slots,keep b o e m n⟩
 have neL:∀ b o,X.s₀.heap.get? b=some o→b≠X.env.locals:=λb o e=>Nat.ne_of_lt (Nat.lt_of_lt_of_le (Heap.lt_size e) I.ok.above)
 have neA:∀ b o,X.s₀.heap.get? b=some o→b∉as:=λb o e m=>by rw[(has b m).2.1] at e;cases e
 have stk:∀ b,b≠X.env.locals→b∉X.fs→b∉frs X.stack:=λb n1 n m=>(List.mem_cons.mp (I.stkSub b m)).elim n1 n
 have cellK:∀ x c,X.env.cells.lookup x=some c→∀ v,s.heap.IsCell c v→h'.IsCell c v:=λx c e v ⟨o,ho,hd⟩=>by
  obtain⟨sl,q⟩:=up c o ho (λz=>(has c z).2.2.2.1 x c e rfl)
  exact⟨_,q,hd⟩
 refine⟨I.ok,I.os,I.bare,⟨λb o e n hb hx=>?_,λb o e n hb hx=>?_,I.base.free,λb o e hx=>?_,I.base.tups,I.base.frzs,I.base.tbls⟩,?_,λx c e=>?_,I.free,I.freeC,λp hp=>?_,λb u e=>?_,I.len⟩
 ·exact keep b o (I.base.keep b o e n hb hx) (stk b (neL b o e) hb) (neA b o e)
 ·obtain⟨sl,e1⟩:=I.base.slot b o e n hb hx
  obtain⟨sl',e2⟩:=up b _ e1 (neA b o e)
  exact⟨sl',e2⟩
 ·obtain⟨o',e1⟩:=I.base.there b o e hx
  obtain⟨sl,e2⟩:=up b o' e1 (neA b o e)
  exact⟨_,e2⟩
 ·obtain⟨m,⟨o,es,ep,ho,r⟩,hl⟩:=I.loc
  obtain⟨sl,hL⟩:=up _ o ho (λz=>(has _ z).2.2.1 rfl)
  refine⟨m,⟨_,es,ep,hL,r⟩,λi x v e1 e2 e3=>?_⟩
  obtain⟨u,r,l⟩:=hl i x v e1 e2 e3
  refine⟨u,r,?_⟩
  rcases l with l | ⟨l,c,e,z⟩
  ·exact .inl l
  ·exact .inr ⟨l,c,e,cellK x c e _ z⟩
 ·obtain⟨v,z⟩:=I.cell x c e
  exact⟨v,cellK x c e v z⟩
 ·obtain⟨e,n,ne,nf,d⟩:=I.pin p hp
  exact⟨keep _ _ e (stk _ ne nf) (λm=>(has _ m).2.2.2.2 p hp rfl),n,ne,nf,d⟩
 ·refine (I.hok b u e).stay (λc v hc q=>keep c v q (λm=>?_) (λm=>?_)) (λ_ q=>q) λ_ _ q=>q
  ·have:=I.stkFree c m
   rcases hc with z | z
   ·subst z;rw[e] at this;cases this
   ·rw[z] at this;cases this
  ·have:=(has c m).1
   rcases hc with z | z
   ·subst z;rw[e] at this;cases this
   ·rw[z] at this;cases this
end
def XP (X:Cx) (pins:List (Addr × Obj)) (σ:St) (E:XK) (e:Value) (s':Shared):Prop:=∃ a C H' s1 H1,e=.ref a∧Inv X pins σ H1 s1∧Inv X pins σ H' s'∧Fly s1.heap s'.heap H' a C∧E C none H'
def PEx (X:Cx) (e:Expr) (t:XK→TE):Prop:=
 ∀ (pins:List (Addr × Obj)) (s:Shared) (σ:St) (H:Hp) (Q:VK) (E:XK),Inv X pins σ H s→t E σ H Q→wpAny (model X.prog X.w) X.A (eval e X.env) (EP X pins σ Q) (XP X pins σ E) s
def PSx (X:Cx) (st:Stmt) (t:XK→TS):Prop:=
 ∀ (pins:List (Addr × Obj)) (s:Shared) (σ:St) (H:Hp) (D:Ends) (E:XK),Inv X pins σ H s→t E D σ H→wpAny (model X.prog X.w) X.A (exec st X.env) (SP X pins D) (XP X pins σ E) s
def PSxs (X:Cx) (st:List Stmt) (t:XK→TS):Prop:=
 ∀ (pins:List (Addr × Obj)) (s:Shared) (σ:St) (H:Hp) (D:Ends) (E:XK),Inv X pins σ H s→t E D σ H→wpAny (model X.prog X.w) X.A (execs st X.env) (SP X pins D) (XP X pins σ E) s
theorem nxm {α:Type}{t:Sem α}{Q Q':α→Shared→Prop}{M:Model}{A:Around}{E:Value→Shared→Prop}{s:Shared}(h:wpAny M A t Q (λ_ _=>False) s) (hQ:∀ a s,Q a s→Q' a s):wpAny M A t Q' E s:=wpAny_mono h hQ λ_ _ x=>x.elim
section
variable {X : Cx} {k j : Nat} {f C : Addr} {fd : FuncData} {ps : List Str} {sp : Sp} {x m : Str} {p pos apos : Pos} {e o : Expr} {es : List Expr} {ta : TE} {t : TA} {E : XK} {pins : List (Addr × Obj)} {σ : St} {H : Hp} {s : Shared} {Q : VK} {us : List Value} {vs : List V}
theorem zl7 (F:FnOk X.prog X.w X.K X.mg X.base (CX1 X.prog X.w) k f fd ps sp) (hr:Room k X.A) (hb:zez X.K fd ps []) (I:Inv X pins σ H s) (r:Vals vs us) (h:sp vs H Q E) :
  wpAny (model X.prog X.w) X.A (call (.ref f) us) (EP X pins σ Q) (XP X pins σ E) s:=by
 have hl:(us++[]).length=ps.length:=by rw[List.append_nil,←r.length];exact F.len _ _ _ _ h
 refine wpAny_call (codeAny_mono (F.run X.A X.stack s H ⟨us,[]⟩ us vs Q E hr I.env0 (by have:=hb s us I.kIn hl;rwa [List.append_nil] at this) r h) λr s' hq=>?_)
 cases r with
 | error e=>
  obtain⟨a,C,H3,rfl,os,bare,un,hok,F,q⟩:=hq
  exact⟨a,C,H3,s,H,rfl,I,I.call' os un hok bare (λb z=>absurd z (by simp)),F,q⟩
 | ok fl=>
  cases fl with
  | ret u=>exact I.after hq
  | next=>exact False.elim hq
  | brk=>exact False.elim hq
  | cont=>exact False.elim hq
theorem znD (G:Fnx X.prog X.w X.K X.mg X.base x ps j sp) (hr:Room k X.A) (hg:Gl X x) (ha:PA X.nox (e::es) t) (hj:j≤k:=by decide) (hdb:(x == ("__debug__" : Str))=false:=by decide)
  (he:starEach (e::es) X.env=(false,eval e X.env)::starEach es X.env:=by rfl) (hpl:(backTo pos (starEach es X.env)).any (·.1)=false:=by rfl):PEx X (.Call (.Name x p) (e::es) [] pos) (λE=>zih sp [] E t):=by
 obtain⟨f,fd,F,hb,hk,hm⟩:=G.ex
 intro pins s σ H Q E I h
 refine wpAny_Call_Name_kw (zd1 I hg hm ?_ hdb)
 refine PySem.W.callWith_K (h₀:=X.base) I.ok.mod.kin hk (nxm (ha pos pins s σ H _ (I.wish _) h) λus s1 ⟨vs,H1,I1,r,q⟩=>⟨I1.unwish.kIn,?_⟩) he hpl
 have q':sp (vs++[]) H1 Q E:=q
 rw[List.append_nil] at q'
 exact zl7 F (hr.mono hj) hb I1.unwish r q'
variable {te : XK → TE} {st : Stmt} {tt uu : XK → TS}
theorem zkO (he:PEx X e te) (hs:swapsWith e none pos.line X.env=pure false:=by rfl):PSx X (.Expr e pos) (λE=>zlB (te E)):=by
 intro pins s σ H D E I h
 exact wpAny_Expr_any (thn (he pins s σ H _ E I h) λv s1 ⟨x,H1,I1,r1,q1⟩=>⟨σ,H1,I1,q1⟩) I.quiet hs
theorem zkP (h1:PSx X st tt):PSxs X [st] tt:=by
 intro pins s σ H D E I h
 refine wpAny_execs_cons (thn (h1 pins s σ H D E I h) λf s1 q=>?_)
 cases f with
 | next=>exact wpAny_execs_nil q
 | ret v=>exact q
 | brk=>exact q
 | cont=>exact q
end
end L2

namespace L2
open PySem PySem.Spec PyProof.Rows PySem.W
section
variable {X : Cx} {pins : List (Addr × Obj)} {σ : St} {H : Hp} {a : Addr} {C : Value} {s : Shared}
structure Ready (X:Cx) (pins:List (Addr × Obj)) (σ:St) (H:Hp) (a:Addr) (C:Value) (s:Shared):Prop where
 ex:∃ (s':Shared) (T T':Addr),Inv X pins σ H s'∧zis X pins H a∧zis X pins H T∧s'.heap.get? T'=none∧(∃ h',s={s' with heap:=h'})∧zgx s.heap a T' C .none∧zeO (frs X.stack) [a,T] s'.heap s.heap
theorem Ready.inv (R:Ready X pins σ H a C s):Inv X pins σ H s:=by
 obtain⟨s',T,T',I,ha,hT,_,⟨h',rfl⟩,F,U⟩:=R.ex
 refine I.shift (as:=[a,T]) U.1 U.2 (λb m=>?_)
 rcases List.mem_cons.mp m with z | z
 ·subst z;exact ha
 ·rw[zms.mp z];exact hT
theorem Ready.apart (R:Ready X pins σ H a C s):zis X pins H a:=by
 obtain⟨s',T,T',I,ha,hT,_,⟨h',rfl⟩,F,U⟩:=R.ex
 exact ha
theorem Ready.obj (R:Ready X pins σ H a C s):∃ oe vs,s.heap.get? a=some oe∧(oe.cls=C∧oe.dict=none)∧oe.data=.fields vs:=by
 obtain⟨s',T,T',I,ha,hT,_,_,F,U⟩:=R.ex
 obtain⟨oe,vs,oT,ts,h1,h2,h3,h4,_⟩:=F
 exact⟨oe,vs,h1,⟨h2,h3⟩,h4⟩
theorem Ready.again {M:Model}{A:Around}{E:Value→Shared→Prop}{Q:Unit→Shared→Prop}(R:Ready X pins σ H a C s) (k:∀ s2,Ready X pins σ H a C s2→Q () s2):wpAny M A (setFlight (.ref a) none) Q E s:=by
 obtain⟨s',T,T',I,ha,hT,n,⟨h',rfl⟩,F,U⟩:=R.ex
 refine zfJ (fr:=frs X.stack) F λh2 F2 U2=>k _ ⟨s',T,T',I,ha,hT,n,⟨h2,rfl⟩,F2,⟨λb o e m1 m2=>U2.1 b o (U.1 b o e m1 m2) m1 (λz=>by rw[zms.mp z,n] at e;cases e),λb o e m1 m2=>?_⟩⟩
 obtain⟨sl,e1⟩:=U.2 b o e m1 m2
 obtain⟨sl2,e2⟩:=U2.up e1 (λz=>by rw[zms.mp z,n] at e;cases e)
 exact⟨sl2,e2⟩
theorem zhl {E:XK}{E':Value→Shared→Prop}{e:Value}{Q:Shared→Prop}(hex:X.ex=[]) (hst:X.stack=X.env::X.outer) (hf:X.env.frame=some X.env.locals) (h:XP X pins σ E e s)
  (k:∀ a C H' s3,e=.ref a→Ready X pins σ H' a C s3→E C none H'→Q s3) :
  wpAny (model X.prog X.w) X.A (noteFrame e X.env) (λ_ s2=>wpAny (model X.prog X.w) X.A (setFlight e none) (λ_ s3=>Q s3) E' s2) E' s:=by
 obtain⟨a,C,H',s1,H1,rfl,I1,I',⟨T,F,hx,hT,hx0,hT0⟩,q⟩:=h
 have hfr:X.A.frames=some (X.env::X.outer):=by rw[←hst];exact I'.ok.frames
 refine zkM (outer:=X.outer) (base:=X.base) hfr (by rw[←hst];exact I'.stack) hf F λh1 T1 n1 F1 U1=>?_
 rw[←hst] at U1
 refine zfJ (fr:=frs X.stack) F1 λh2 F2 U2=>k a C H' _ rfl ⟨s,T,T1,I',zhX I1 hex hx0 hx,zhX I1 hex hT0 hT,n1,⟨h2,rfl⟩,F2,⟨λb o e m1 m2=>U2.1 b o (U1.1 b o e m1 m2) m1 (λz=>by rw[zms.mp z,n1] at e;cases e),λb o e m1 m2=>?_⟩⟩ q
 obtain⟨sl,e1⟩:=U1.2 b o e m1 m2
 obtain⟨sl2,e2⟩:=U2.up e1 (λz=>by rw[zms.mp z,n1] at e;cases e)
 exact⟨sl2,e2⟩
def XH (X:Cx) (a:Addr) (o:Obj):Cx:={X with A:=X.A.mark (some (.ref a)),calm:=false,pn:=(a,o)::X.pn,xe:=λ_ _=>False}
theorem Inv.held {o:Obj}(I:Inv X pins σ H s) (ho:s.heap.get? a=some o) (ap:zis X pins H a) (nc:∀ v,o.data≠.cell v):Inv (XH X a o) pins σ H s:=by
 have ok:=I.ok
 refine⟨⟨ok.mod,ok.kind,ok.glob,ok.blt,ok.above,ok.inj,ok.has,ok.cab,(λz=>absurd z Bool.false_ne_true),ok.frames,ok.stk,ok.exf,ok.bs,ok.bsz,ok.noex,ok.exfs,ok.funs,ok.frf⟩,I.os,I.bare,I.base,I.loc,I.cell,I.free,I.freeC,λp hp=>?_,I.hok,I.len⟩
 have hp':p∈(a,o)::(X.pn++pins):=hp
 rcases List.mem_cons.mp hp' with z | z
 ·subst z
  refine⟨ho,ap.1,ap.2.2.1,λm=>?_,nc⟩
  obtain⟨_,o2,h2,_⟩:=ok.funs.mem m
  have:=ap.2.1
  rw[h2] at this;cases this
 ·exact I.pin p z
theorem Inv.unheld {o:Obj}(ok:X.Ok) (I:Inv (XH X a o) pins σ H s):Inv X pins σ H s:=
 ⟨ok,I.os,I.bare,I.base,I.loc,I.cell,I.free,I.freeC,λp hp=>I.pin p (List.mem_cons_of_mem _ hp),I.hok,I.len⟩
end
def PH (X:Cx) (hs:List ExceptHandler) (t:Value→Addr→TS):Prop:=
 ∀ (pins:List (Addr × Obj)) (s:Shared) (σ:St) (H:Hp) (D:Ends) (a:Addr) (C:Value),Ready X pins σ H a C s→t C a D σ H→wpAny (model X.prog X.w) X.A (handleBy (.ref a) X.env hs) (SP X pins D) X.xe s
def tHand (K:Fg) (D:Addr) (th tr:Value→Addr→TS):Value→Addr→TS:=λC a E σ H=>∃ Cc anc,C=.ref Cc∧Err K Cc anc∧if (Value.ref Cc::anc).contains (.ref D)=true then th C a E σ H else tr C a E σ H
def tAs (i:Nat) (t:Value→Addr→TS):Value→Addr→TS:=λC a D σ H=>t C a {nx:=λσ' H'=>D.nx (σ'.set i none) H',rt:=D.rt,bk:=λσ' H'=>D.bk (σ'.set i none) H',ct:=λσ' H'=>D.ct (σ'.set i none) H'} (σ.set i (some (.ref a))) H
section
variable {X : Cx} {x : Str} {np pos : Pos} {b0 : Stmt} {suite : List Stmt} {rest : List ExceptHandler} {D : Addr} {anc : List Value} {tb tr : Value → Addr → TS}
theorem znE:PH X [] (λ_ _=>zmD):=λ_ _ _ _ _ _ _ _ h=>h.elim
theorem zdL {M:Model}{A:Around}{E:Value→Shared→Prop}{pins:List (Addr × Obj)}{σ:St}{H:Hp}{s:Shared}{i:Nat}{n:Str}{pos:Pos}{Q:Unit→Shared→Prop}(I:Inv X pins σ H s) (hN:X.N.Nodup) (hi:X.N[i]?=some n) (hl:X.env.scope.names.lookup n=some .local)
  (k:∀ s',Inv X pins (σ.set i none) H s'→Q () s'):wpAny M A (do bindName X.env n .none;unbindBehindTheSuite X.env n pos) Q E s:=by
 refine wpAny_bind (wpAny_bindName (zes I hN hi (.inl hl) (v:=.non) (u:=.none) rfl (λs1 I1=>?_) (.inr hl)))
 have hiσ:i<σ.length:=by rw[I.len];exact (zge.mp hi).1
 obtain⟨m,hn,hv⟩:=id I1.loc
 obtain⟨u,_,lk⟩:=hv i n .non hi (by rw[List.getElem?_set_self hiσ]) (.inl hl)
 have hv':m n=some u:=by
  rcases lk with ⟨_,z⟩ | ⟨z,_⟩
  ·exact z
  ·have hl':X.env.kindOf n=some .local:=hl
   rw[hl'] at z
   rcases z with z | z <;> cases z
 unfold unbindBehindTheSuite
 refine wpAny_onRaise (wpAny_unbindName_local hl hn hv' (by rw[I.ok.kind];rfl) λh' u' hn' hs=>k _ ?_)
 obtain⟨oL,_,_,hoL,_⟩:=id hn
 have neL:∀ b o,X.s₀.heap.get? b=some o→b≠X.env.locals:=λb o e=>Nat.ne_of_lt (Nat.lt_of_lt_of_le (Heap.lt_size e) I.ok.above)
 refine⟨I.ok,I1.os,I1.bare,⟨λb o e n hb hx=>?_,λb o e n hb hx=>?_,I1.base.free,λb o e hx=>?_,I1.base.tups,I1.base.frzs,I1.base.tbls⟩,⟨_,hn',λj y v' e1 e2 e3=>?_⟩,λy c e=>?_,I1.free,I1.freeC,λp hp=>?_,λb ob e=>?_,by rw[List.length_set];exact I.len⟩
 ·exact (hs.2 b (neL b o e)).trans (I1.base.keep b o e n hb hx)
 ·obtain⟨sl,e1⟩:=I1.base.slot b o e n hb hx
  exact⟨sl,(hs.2 b (neL b o e)).trans e1⟩
 ·obtain⟨o',e1⟩:=I1.base.there b o e hx
  exact⟨o',(hs.2 b (neL b o e)).trans e1⟩
 ·by_cases hj:j=i
  ·subst hj
   rw[List.getElem?_set_self hiσ] at e2
   cases e2
  ·rw[List.getElem?_set_ne (Ne.symm hj)] at e2
   obtain⟨u2,r,q⟩:=hv j y v' e1 (by rw[List.getElem?_set_ne (Ne.symm hj)];exact e2) e3
   refine⟨u2,r,?_⟩
   rcases q with ⟨k,e⟩ | ⟨k,c,e,z⟩
   ·refine .inl ⟨k,?_⟩
    have:y≠n:=λe=>hj (zfy hN e1 (e ▸ hi))
    simp[this,e]
   ·exact .inr ⟨k,c,e,z.sameBut hs (I1.cne y c e)⟩
 ·obtain⟨w',z⟩:=I1.cell y c e
  exact⟨w',z.sameBut hs (I1.cne y c e)⟩
 ·obtain⟨e,n,ne,nf,d⟩:=I1.pin p hp
  exact⟨(hs.2 p.1 ne).trans e,n,ne,nf,d⟩
 ·refine (I1.hok b ob e).stay (λc w' hc q=>(hs.2 c ?_).trans q) (λ_ q=>q) λ_ _ q=>q
  rintro rfl
  rcases hc with rfl | hc
  ·rw[I1.free] at e;cases e
  ·rw[I1.free] at hc;cases hc
theorem ph_as {i:Nat}{n:Str}(eD:Err X.K D anc) (hg:Gl X x) (hm:X.mg x=some (.ref D)) (hN:X.N.Nodup) (hi:X.N[i]?=some n) (hl:X.env.scope.names.lookup n=some .local) (hb:∀ a o,o.dict=none→(∀ v,o.data≠.cls v)→PSs (XH X a o) (b0::suite) (tb o.cls a)) (hr:PH X rest tr) (hd:(x == ("__debug__" : Str))=false:=by decide) :
  PH X (.ExceptHandler (some (.Name x np)) (some n) (b0::suite) pos::rest) (tHand X.K D (tAs i tb) tr):=by
 intro pins s σ H E a C R h
 obtain⟨Cc,ancC,rfl,eC,h⟩:=h
 have I:=R.inv
 obtain⟨oe,vs,ho,⟨hc,_⟩,hdt⟩:=R.obj
 obtain⟨nm,q,N,bs,hdct,sn,sub,ab,col,dd,k0,k1,k2,k3,k5,mN,hC,_,_,TC⟩:=eC.obj I.kIn
 obtain⟨nm',q',N',bs',hdct',sn',sub',ab',col',dd',l0,l1,l2,l3,l5,mN',hD,_,_,TD⟩:=eD.obj I.kIn
 refine wpAny_handleBy_cons (codeAny_handlers_test (zd1 (X:=XH X a oe) (I.held ho R.apart (λv z=>by rw[hdt] at z;cases z)) hg hm ?_ hd)) (by intro q;cases q)
 obtain⟨hp,g,d,tk,os⟩:=s
 refine ze9 hC hD ho hc (TD.hasType PySem.F.excBase_ValueError.hasBase) ?_
 by_cases b:(Value.ref Cc::ancC).contains (.ref D)=true
 ·rw[if_pos b] at h
  rw[b]
  show codeAny _ _ _ _ _
  refine codeAny_handlers_suite_as (R.again λs2 R2=>?_)
  obtain⟨o2,vs2,ho2,⟨hc2,hi2⟩,hd2⟩:=R2.obj
  rw[←hc2] at h
  have IH:=R2.inv.held ho2 R2.apart (λv z=>by rw[hd2] at z;cases z)
  refine zes (X:=XH X a o2) IH hN hi (.inl hl) (v:=.ref a) (u:=.ref a) rfl (λs3 I3=>?_) (.inr hl)
  refine nxm (hb a o2 hi2 (λv z=>by rw[hd2] at z;cases z) pins s3 _ H _ I3 h) λf s4 q=>?_
  show wpAny _ _ _ _ _ _
  cases f with
  | next=>
   obtain⟨σ',H',I4,q⟩:=q
   exact zdL (I4.unheld I.ok) hN hi hl λs5 I5=>⟨_,H',I5,q⟩
  | brk=>
   obtain⟨σ',H',I4,q⟩:=q
   exact zdL (I4.unheld I.ok) hN hi hl λs5 I5=>⟨_,H',I5,q⟩
  | cont=>
   obtain⟨σ',H',I4,q⟩:=q
   exact zdL (I4.unheld I.ok) hN hi hl λs5 I5=>⟨_,H',I5,q⟩
  | ret u=>
   obtain⟨v,σ',H',I4,r,q⟩:=q
   exact zdL (I4.unheld I.ok) hN hi hl λs5 I5=>⟨v,_,H',I5,r,q⟩
 ·rw[if_neg b] at h
  rw[Bool.not_eq_true] at b
  rw[b]
  exact hr pins _ σ H E a _ R h
def tTry (tb:XK→TS) (th:Value→Addr→TS):TS:=λD σ H=>tb (λC _ H'=>∀ a,th C a D σ H') D σ H
theorem znF {body:List Stmt}{h0:ExceptHandler}{hs:List ExceptHandler}{tx:XK→TS}{th:Value→Addr→TS}(hex:X.ex=[]) (hst:X.stack=X.env::X.outer) (hf:X.env.frame=some X.env.locals) (hb:PSxs X body tx) (hh:PH X (h0::hs) th):PS X (.Try body (h0::hs) [] [] pos) (tTry tx th):=by
 intro pins s σ H D I h
 refine wpAny_Try_except (wpAny_mono (hb pins s σ H D _ I h) (λf s1 q=>?_) λe s1 q=>?_)
 ·cases f with
  | next=>exact wpAny_execs_nil q
  | ret v=>exact q
  | brk=>exact q
  | cont=>exact q
 ·exact zhl hex hst hf q λa C H' s3 ee R q2=>by
   subst ee
   exact hh pins s3 σ H' D a C R (q2 a)
end
theorem Err.cls {K:Fg}{C:Addr}{anc:List Value}(e:Err K C anc):∃ cd,clsIn K C=some cd∧cd.mro=.ref C::anc∧typeIn K (.ref C)=some (.type "type"):=by
 obtain⟨⟨nm,q,N,bs,hdct,sn,sub,ab,col,dd,k0,k1,k2,k3,k5,l⟩,x⟩:=e
 refine⟨_,by unfold clsIn;rw[l],rfl,?_⟩
 show (K.lookup C).map (·.cls)=_
 rw[l];rfl
theorem zl8 {K:Fg}{C D:Addr}{anc ancD:List Value}(e:Err K C anc) (d:Err K D ancD):kitOne K (.ref C) (.ref D)=some ((Value.ref C::anc).contains (.ref D)):=by
 obtain⟨cC,c1,c2,c3⟩:=e.cls
 obtain⟨cD,d1,d2,d3⟩:=d.cls
 unfold kitOne
 by_cases z:(Value.ref C == Value.ref D)=true
 ·rw[if_pos z]
  have:Value.ref C=Value.ref D:=eq_of_beq z
  rw[←this]
  simp
 ·rw[if_neg z]
  unfold kitCls
  simp only[d1,d3]
  unfold subIn mroIn
  simp only[c1,c2]
  simp
  rw[c2]
  simp
end L2

namespace L2
open PySem PySem.Spec PyProof.Rows PySem.W
def zcX:Nat:=10 ^ 30
theorem zjN {i:Int}(h:i.natAbs<zcX):i.natAbs.log2<1920:=by
 by_cases z:i.natAbs=0
 ·rw[z];decide
 ·refine (Nat.log2_lt z).mpr (Nat.lt_of_lt_of_le h ?_)
  unfold zcX
  exact Nat.le_trans (by decide:10 ^ 30≤2 ^ 100) (Nat.pow_le_pow_right (n:=2) (by decide) (by decide:100≤1920))
section
variable {X : Cx} {pins : List (Addr × Obj)} {σ : St} {H : Hp} {s : Shared}
end
theorem zhm {i:Int}(h:i.natAbs<zcX):(Str.ofString (toString i)).length≤32:=by
 have e:=int_text_length_le10 (k:=30) (by decide) h
 rw[PySem.ofString_length];omega
end L2

namespace L2
open PySem PySem.Spec PyProof.Rows PySem.W
section
variable {prog : Program} {w : World} {A : Around} {E : Value → Shared → Prop}
end
section
variable {X : Cx} {pos : Pos}
end
end L2

namespace L2
open PySem PySem.Spec PyProof.Rows PySem.W
theorem zaj.append {H:Hp} : ∀ {ds1:List D}{vs1:List V}{f1:List Addr}{ds2:List D}{vs2:List V}{f2:List Addr},zaj H ds1 vs1 f1→zaj H ds2 vs2 f2→zaj H (ds1++ds2) (vs1++vs2) (f1++f2)
 | [],_,_,_,_,_,h1,h2=>by
  unfold zaj at h1
  obtain⟨rfl,rfl⟩:=h1
  exact h2
 | d::ds,_,_,_,_,_,h1,h2=>by
  unfold zaj at h1
  obtain⟨v,r,f,g,rfl,rfl,q1,q2⟩:=h1
  rw[List.append_assoc]
  exact zaj.cany q1 (zaj.append q2 h2)
theorem zaj.cut {H:Hp} : ∀ (i:Nat) {ds:List D}{vs:List V}{fp:List Addr},zaj H ds vs fp→∃ f1 f2,fp=f1++f2∧zaj H (ds.take i) (vs.take i) f1∧zaj H (ds.drop i) (vs.drop i) f2
 | 0,ds,vs,fp,h=>⟨[],fp,rfl,zaj.nil,h⟩
 | i+1,[],_,_,h=>by
  unfold zaj at h
  obtain⟨rfl,rfl⟩:=h
  exact⟨[],[],rfl,zaj.nil,zaj.nil⟩
 | i+1,d::ds,_,_,h=>by
  unfold zaj at h
  obtain⟨v,r,f,g,rfl,rfl,q1,q2⟩:=h
  obtain⟨f1,f2,rfl,h1,h2⟩:=zaj.cut i q2
  exact⟨f++f1,f2,(List.append_assoc _ _ _).symm,zaj.cany q1 h1,h2⟩
theorem New.acc {H H':Hp}{ds:List D}{v:V}(h:New H H' (.lst ds) v):∃ a vs,v=.ref a∧H a=none∧Acc H a H' ds vs:=by
 obtain⟨a,vs,fp,e1,e2,e3,e4,e5,e7,e6⟩:=New.lst_out h
 exact⟨a,vs,e1,e2,fp,e3,e4,e5,e7,e6⟩
theorem Acc.get {H H2:Hp}{da:Addr}{ds:List D}{vs:List V}(a:Acc H da H2 ds vs):H2 da=some (.lst vs):=by obtain⟨fp,h,_⟩:=a;exact h
theorem Acc.len {H H2:Hp}{da:Addr}{ds:List D}{vs:List V}(a:Acc H da H2 ds vs):ds.length=vs.length:=by obtain⟨fp,_,h,_⟩:=a;exact h.length
end L2

namespace L2
open PySem PySem.Spec PyProof.Rows PySem.W
section
variable {X : Cx} {es : List Expr} {pos : Pos} {te : TE} {t : TA}
theorem zad {x:Str}(h:PE X (.Name x pos) te) (r:PA X es t):PA X (.Name x pos::es) (zdy te t):=zbq h r rfl
theorem zai {c:Const}{k:Nat}(h:PE X (.Constant c k pos) te) (r:PA X es t):PA X (.Constant c k pos::es) (zdy te t):=zbq h r rfl
theorem zfa {o:UnaryOp}{a:Expr}(h:PE X (.UnaryOp o a pos) te) (r:PA X es t):PA X (.UnaryOp o a pos::es) (zdy te t):=zbq h r rfl
theorem zfK {a:Expr}{g:List Comprehension}{sc:Scope}(h:PE X (.ListComp a g sc pos) te) (r:PA X es t):PA X (.ListComp a g sc pos::es) (zdy te t):=zbq h r rfl
theorem znG {a:Expr}{o:List CmpOp}{b:List Expr}(h:PE X (.Compare a o b pos) te) (r:PA X es t):PA X (.Compare a o b pos::es) (zdy te t):=zbq h r rfl
theorem zaT {a b:Expr}(h:PE X (.Subscript a b pos) te) (r:PA X es t):PA X (.Subscript a b pos::es) (zdy te t):=zbq h r rfl
theorem zbh {a:List Expr}(h:PE X (.List a pos) te) (r:PA X es t):PA X (.List a pos::es) (zdy te t):=zbq h r rfl
theorem zb7 {a:List Expr}{k:Nat}(h:PE X (.Tuple a k pos) te) (r:PA X es t):PA X (.Tuple a k pos::es) (zdy te t):=zbq h r rfl
theorem zaU {a b:Expr}{o:Operator}(h:PE X (.BinOp a o b pos) te) (r:PA X es t):PA X (.BinOp a o b pos::es) (zdy te t):=zbq h r rfl
theorem zaz {f:Expr}{a:List Expr}{k:List Keyword}(h:PE X (.Call f a k pos) te) (r:PA X es t):PA X (.Call f a k pos::es) (zdy te t):=zbq h r rfl
theorem zdB {a:Expr}{x:Str}(h:PE X (.Attribute a x pos) te) (r:PA X es t):PA X (.Attribute a x pos::es) (zdy te t):=zbq h r rfl
end
section
variable {X : Cx} {e a b : Expr} {es : List Expr} {pos : Pos} {te ta tb : TE} {t : TA} {r : R2}
end
section
variable {X : Cx} {e : Expr} {st : Stmt} {rest a b : List Stmt} {pos : Pos} {te : TE} {t u : TS} {tc : TT}
end
theorem zlq {t u:TS}{D:Ends}{σ:St}{H:Hp}(M:St→Hp→Prop) (h:∀ NX:St→Hp→Prop,(∀ σ H,M σ H→NX σ H)→t {D with nx:=NX} σ H) (tail:∀ σ H,M σ H→u D σ H):tSeq t u D σ H:=h _ tail
theorem zaM {c:TT}{t u:TS}{D:Ends}{σ:St}{H:Hp}(h:∀ Q:Bool→Hp→Prop,Q false H→c σ H Q) (k:u D σ H):tSeq (tIfS c t zi3) u D σ H:=h _ (iteF k)
theorem zfn {c:TT}{t e u:TS}{D:Ends}{σ:St}{H:Hp}(h:∀ Q:Bool→Hp→Prop,Q true H→c σ H Q) (k:∀ NX:St→Hp→Prop,t {D with nx:=NX} σ H):tSeq (tIfS c t e) u D σ H:=h _ (iteT (k _))
theorem zhn {K:Fg}{H:Hp}{Q:VK}{a:Addr}{xs:List V}{lo hi:Option Int}(h:SqL K H a xs) (q:∀ p,H p=none→Q (.ref p) (upd H p (.lst (cutV xs lo hi)))):rSl K (.ref a) lo hi H Q:=.inl ⟨a,xs,rfl,h,q⟩
theorem zkQ {xs:List V}{k:Nat}(h:k≤xs.length):cutV xs none (some (k:Int))=xs.take k:=by
 unfold cutV
 rw[HT.sIx_none,HT.sIx_nat,List.drop_zero,Nat.sub_zero,Nat.min_eq_left h]
theorem zkR {xs:List V}{k:Nat}(h:k≤xs.length):cutV xs (some (k:Int)) none=xs.drop k:=by
 unfold cutV
 rw[HT.sIx_none,HT.sIx_nat,Nat.min_eq_left h,List.take_of_length_le (by rw[List.length_drop];exact Nat.le_refl _)]
theorem znH {xs:List V}{k:Int}(h0:0≤k) (h:k.toNat≤xs.length):cutV xs none (some k)=xs.take k.toNat:=by
 have:=zkQ (xs:=xs) h
 rwa [show ((k.toNat:Nat):Int)=k by omega] at this
theorem zgz {xs:List V}{k:Int}(h0:0≤k) (h:k.toNat≤xs.length):cutV xs (some k) none=xs.drop k.toNat:=by
 have:=zkR (xs:=xs) h
 rwa [show ((k.toNat:Nat):Int)=k by omega] at this
theorem znI {K:Fg}{H:Hp}{Q:VK}{a:Addr}{xs:List V}{n:Int}(h:SqL K H a xs∨SqT K H a xs) (e:(xs.length:Int)=n) (q:Q (.int n) H):rLen K [.ref a] H Q:=zd5 h (by rw[e];exact q)
theorem znJ {n:Nat}{k:Int}(h0:0≤k) (h:k<(n:Int)):ixN n k=some k.toNat:=by
 unfold ixN
 rw[if_pos h0,if_pos h]
theorem Same.put {H0 H:Hp}{w:Addr}{o:HO}(s:Same H0 H) (h:H0 w=none):Same H0 (upd H w o):=λb u e=>by rw[zaw (zaY e h)];exact s _ _ e
theorem zhY {α:Type}{xs:List α}{k:Int}{x:α}(h0:0≤k) (h:xs[k.toNat]?=some x):atI xs k=some x:=by
 have:=zap (j:=k.toNat) h
 rwa [show ((k.toNat:Nat):Int)=k by omega] at this
def Ls (H:Hp) (ka:Addr) (ls:List (List Int)):Prop:=∃ as:List Addr,H ka=some (.lst (as.map V.ref))∧as.length=ls.length∧∀ (i:Nat) a l,as[i]?=some a→ls[i]?=some l→H a=some (.lst (l.map V.int))
theorem zhZ {H:Hp}{a:Addr}{l:List Int}{as:List Addr}(h1:H a=some (.lst (l.map V.int))) (h2:H a=some (.lst (as.map V.ref))):l=[]:=by
 rw[h1] at h2
 cases l with
 | nil=>rfl
 | cons i l=>
  cases as with
  | nil=>simp at h2
  | cons b as=>simp at h2
theorem Ls.same {H H':Hp}{ka:Addr}{ls:List (List Int)}(e:Same H H') (h:Ls H ka ls):Ls H' ka ls:=by
 obtain⟨as,h1,h2,h3⟩:=h
 exact⟨as,e _ _ h1,h2,λi a l e1 e2=>e _ _ (h3 i a l e1 e2)⟩
theorem Ls.len {H:Hp}{ka:Addr}{ls:List (List Int)}(h:Ls H ka ls):∃ xs,H ka=some (.lst xs)∧xs.length=ls.length:=by
 obtain⟨as,h1,h2,h3⟩:=h
 exact⟨_,h1,by rw[zlm];exact h2⟩
theorem Ls.out {K:Fg}{H:Hp}{ka:Addr}{ls:List (List Int)}(h:Ls H ka ls):∃ xs,H ka=some (.lst xs)∧xs.length=ls.length∧Reps K H (ls.map nums) xs:=by
 obtain⟨as,h1,h2,h3⟩:=h
 refine⟨_,h1,by rw[zlm];exact h2,Reps.of (by simp[h2]) λi d v e1 e2=>?_⟩
 rw[zgm] at e1 e2
 obtain⟨l,hl,rfl⟩:=zme.mp e1
 obtain⟨a,ha,rfl⟩:=zme.mp e2
 exact zbJ.mpr ⟨a,rfl,SqL.of (h3 i a l ha hl)⟩
theorem Ls.rep {K:Fg}{H:Hp}{ka:Addr}{ls:List (List Int)}(h:Ls H ka ls):Rep K H (.lst (ls.map nums)) (.ref ka):=by
 obtain⟨xs,h1,_,h2⟩:=h.out (K:=K)
 unfold Rep
 exact⟨ka,xs,rfl,SqL.of h1,h2⟩
theorem Ls.item {H:Hp}{ka:Addr}{ls:List (List Int)}{xs:List V}{i:Nat}{x:V}(h:Ls H ka ls) (e:H ka=some (.lst xs)) (hx:xs[i]?=some x):∃ a l,x=.ref a∧ls[i]?=some l∧H a=some (.lst (l.map V.int)):=by
 obtain⟨as,h1,h2,h3⟩:=h
 rw[h1] at e;cases e
 rw[zgm] at hx
 obtain⟨a,ha,rfl⟩:=zme.mp hx
 have hi:=(zge.mp ha).1
 refine⟨a,ls[i]'(by omega),rfl,by simp,h3 i a _ ha (by simp)⟩
theorem Ls.upd {H:Hp}{ka w:Addr}{ls:List (List Int)}{o:HO}(h:Ls H ka ls) (n:w≠ka) (m:∀ l∈ls,H w≠some (.lst (l.map V.int))):Ls (upd H w o) ka ls:=by
 obtain⟨as,h1,h2,h3⟩:=h
 refine⟨as,by rw[zaw n.symm];exact h1,h2,λi a l e1 e2=>?_⟩
 have:=h3 i a l e1 e2
 rw[zaw (λz=>m l (zmg e2) (by rw[←z];exact this))]
 exact this
theorem Ls.set {H:Hp}{ka r:Addr}{ls:List (List Int)}{xs:List V}{l:List Int}{i:Nat}(h:Ls H ka ls) (h9:∀ l∈ls,l.length=9) (e:H ka=some (.lst xs)) (hr:H r=some (.lst (l.map V.int))) (hl:l.length=9) (n:r≠ka):Ls (L2.upd H ka (.lst (xs.set i (.ref r)))) ka (ls.set i l):=by
 obtain⟨as,h1,h2,h3⟩:=h
 rw[h1] at e;cases e
 refine⟨as.set i r,by rw[zac,List.map_set],by simp[h2],λj a m e1 e2=>?_⟩
 have key:H a=some (.lst (m.map V.int))∧m.length=9:=by
  rw[List.getElem?_set] at e1 e2
  by_cases hij:i=j
  ·rw[if_pos hij] at e1 e2
   split at e1
   ·split at e2
    ·cases e1;cases e2;exact⟨hr,hl⟩
    ·cases e2
   ·cases e1
  ·rw[if_neg hij] at e1 e2
   exact⟨h3 j a m e1 e2,h9 m (zmg e2)⟩
 rw[zaw (λz=>by
  have q:=key.1
  rw[z] at q
  have:=zhZ q h1
  rw[this] at key;exact absurd key.2 (by decide))]
 exact key.1
theorem New.ls {H H':Hp}{ls:List (List Int)}{v:V}(h:New H H' (.lst (ls.map nums)) v):∃ ka,v=.ref ka∧H ka=none∧Ls H' ka ls:=by
 obtain⟨a,vs,fp,rfl,ha,h1,h2,_⟩:=New.lst_out h
 obtain⟨e1,e2,e3⟩:=zaj.lines h2
 subst e1
 refine⟨a,rfl,ha,fp,h1,e2,λi b l q1 q2=>?_⟩
 obtain⟨l',z1,z2⟩:=e3 i b q1
 rw[q2] at z1;cases z1
 exact z2
theorem New.cat {H H1 H2:Hp}{a b p:Addr}{ds1 ds2:List D}{xs ys:List V}(n1:New H H1 (.lst ds1) (.ref a)) (e1:Same H H1) (s:Same H1 H2) (n2:New H1 H2 (.lst ds2) (.ref b)) (h1:H2 a=some (.lst xs)) (h2:H2 b=some (.lst ys)) (hp:H2 p=none):New H (upd H2 p (.lst (xs++ys))) (.lst (ds1++ds2)) (.ref p):=by
 obtain⟨a',vs,fp,ea,ha,g1,g2,g3,g4,g5⟩:=New.lst_out n1
 cases ea
 obtain⟨b',vs',fq,eb,hb,k1,k2,k3,k4,k5⟩:=New.lst_out n2
 cases eb
 have ev:xs=vs:=by rw[s _ _ g1] at h1;injection h1 with h1;injection h1 with h1;exact h1.symm
 have ev':ys=vs':=by rw[k1] at h2;injection h2 with h2;injection h2 with h2;exact h2.symm
 subst ev;subst ev'
 have sp:=zae hp (.lst (xs++ys))
 have hf:∀ b∈fp,∃ o,H1 b=some o:=zaj.has _ g2
 refine New.lst ((zaj.sq (s.trans sp).sq _ g2).append (zaj.sq sp.sq _ k2)) (List.nodup_append.mpr ⟨g3,k3,λx hx y hy z=>?_⟩) (λc hc=>?_) ((e1.trans s).free hp) (λm=>?_) zac
 ·subst z
  obtain⟨o,ho⟩:=hf x hx
  have:=k5 x hy
  rw[ho] at this;cases this
 ·rcases zma.mp hc with hc | hc
  ·exact g5 c hc
  ·exact e1.free (k5 c hc)
 ·rcases zma.mp m with m | m
  ·obtain⟨o,ho⟩:=hf p m
   rw[s _ _ ho] at hp;cases hp
  ·obtain⟨o,ho⟩:=zaj.has _ k2 p m
   rw[ho] at hp;cases hp
section
variable {H0 H : Hp} {ga ka wa : Addr} {goal : List Int} {known : List (List Int)} {ws : List Int} {m n : Nat}
end
end L2

namespace L2
open PySem PySem.Spec PyProof.Rows PySem.W
theorem zl9 {J:It}{H1:Hp}{n:Nat}{P:Nat→V→Hp→Prop}{g:TG}{te:TE}{σ0:St}{Q:VK}(wk:Goes J H1 n P) (ls:List (List Int)) (hn:ls.length=n) (hz:n≤sizeLine) (h9:∀ l∈ls,l.length=9)
  (step:∀ i x l H' (R:VK),i<n→ls[i]?=some l→Same H1 H'→P i x H'→(∀ a H3,Same H' H3→H3 a=some (.lst (l.map V.int))→R (.ref a) H3)→g x σ0 H' λσ2 H2=>te σ2 H2 R)
  (fin:∀ a H',Same H1 H'→H1 a=none→Ls H' a ls→Q (.ref a) H'):zgs J g zkw te σ0 H1 Q:=by
 intro Da hD
 refine⟨λi m ys H=>m=n - i∧i≤n∧Same H1 H∧H Da=some (.lst ys)∧Ls H Da (ls.take i),⟨n,rfl,Nat.zero_le _,zae hD _,zac,[],zac,rfl,λi a l e _=>by simp at e⟩,?_⟩
 rintro i m ys H ⟨rfl,hi,hs,hH,hL⟩
 refine⟨hH,?_⟩
 obtain⟨as,h1,h2,h3⟩:=hL
 have ey:ys=as.map V.ref:=by rw[hH] at h1;injection h1 with h1;injection h1
 subst ey
 rw[List.length_take] at h2
 by_cases hlt:i<n
 ·refine .inr ⟨wk.go i H hlt hs,by rw[zlm];omega,λys' H'=>(n - (i+1)<n - i∧i+1≤n∧Same H1 H'∧H' Da=some (.lst ys')∧Ls H' Da (ls.take (i+1))),λys' H' ⟨q1,q2,q3,q4,q5⟩=>⟨n - (i+1),q1,rfl,q2,q3,q4,q5⟩,λx H' hy=>?_⟩
  obtain⟨s1,hp⟩:=wk.yld i H x H' hlt hs hy
  have hi':i<ls.length:=by omega
  refine step i x ls[i] H' _ hlt (by simp) (hs.trans s1) hp λa H3 s3 ha=>?_
  have hD3:H3 Da=some (.lst (as.map V.ref)):=s3 _ _ (s1 _ _ hH)
  refine⟨hD3,by omega,hlt,λb o e=>?_,zac,as++[a],by rw[zac,List.map_append];rfl,by rw[List.length_append,List.length_take];simp;omega,λj b l e1 e2=>?_⟩
  ·rw[zaw (zaY e hD)]
   exact s3 _ _ (s1 _ _ (hs _ _ e))
  ·have key:H3 b=some (.lst (l.map V.int))∧l.length=9:=by
    refine⟨?_,h9 l (List.mem_of_mem_take (zmg e2))⟩
    rw[List.getElem?_append] at e1
    split at e1
    ·rename_i hj
     have hji:j<i:=by omega
     refine s3 _ _ (s1 _ _ (h3 j b l e1 ?_))
     rw[List.getElem?_take] at e2 ⊢
     rw[if_pos (by omega)] at e2
     rw[if_pos hji];exact e2
    ·rename_i hj
     have hj0:j - as.length=0:=by
      have:=(zge.mp e1).1
      simp at this;omega
     have hji:j=i:=by omega
     rw[hj0] at e1
     simp at e1
     subst e1
     rw[List.getElem?_take,if_pos (by omega),hji,List.getElem?_eq_getElem hi'] at e2
     cases e2
     exact ha
   rw[zaw (λz=>by
    have q:=key.1
    rw[z] at q
    have:=zhZ q hD3
    rw[this] at key;exact absurd key.2 (by decide))]
   exact key.1
 ·have e:i=n:=by omega
  subst e
  refine .inl ⟨wk.stop H hs,fin _ _ hs hD ⟨as,hH,by omega,λj a l e1 e2=>h3 j a l e1 ?_⟩⟩
  rw[List.take_of_length_le (by omega)];exact e2
theorem hr_u {k:Nat}{A:Around}(hr:Room k A):A.units+1<cLine:=by have:=hr.units;omega
section
variable {σ : St} {H : Hp} {Q : VK} {td ty tx tv : TE} {D : Ends}
theorem zmb (h:td σ H λx H1=>∃ a,x=.ref a∧IsD H1 a∧ty σ H1 λy H2=>tx σ H2 λz H3=>∃ o,DGet H3 a y o∧Q (o.getD z) H3):zld td ty tx σ H Q:=h
theorem znK (h:td σ H λx H1=>ty σ H1 λy H2=>∃ a v,x=.ref a∧DGet H2 a y (some v)∧Q v H2):zm3 td ty σ H Q:=h
theorem zkS (h:ty σ H λy H1=>td σ H1 λx H2=>∃ a o,x=.ref a∧DGet H2 a y o∧Q (.bl (!o.isSome)) H2):zjs ty td σ H Q:=h
theorem znL (h:tv σ H λv H1=>td σ H1 λx H2=>ty σ H2 λy H3=>∃ a H4,x=.ref a∧DPut H3 a y v H4∧D.nx σ H4):zm4 td ty tv D σ H:=h
theorem zfo {trs:List (TE × TE)}(h:∀ p,H p=none→zeD trs σ (upd H p (.dK [])) λps H2=>H2 p=some (.dK [])∧∃ kvs:List (Key × V),ps=kvs.map (λkv=>(kV kv.1,kv.2))∧kvs.length≤15∧Q (.ref p) (upd H2 p (.dK (zbz [] kvs)))):zm5 trs σ H Q:=h
theorem zkT {R:List (V × V)→Hp→Prop}(h:R [] H):zeD [] σ H R:=h
theorem zmd {tk:TE}{r:List (TE × TE)}{R:List (V × V)→Hp→Prop}(h:tk σ H λx H1=>tv σ H1 λy H2=>zeD r σ H2 λps H3=>R ((x,y)::ps) H3):zeD ((tk,tv)::r) σ H R:=h
end
end L2
namespace L2
open PySem PySem.Spec PyProof.Rows PySem.W
theorem Ls.more {H:Hp}{na p:Addr}{ls ms:List (List Int)}{xs:List V}{bs:List Addr}(h:Ls H na ls) (e:H na=some (.lst xs)) (hl:bs.length=ms.length) (hb:∀ (i:Nat) a l,bs[i]?=some a→ms[i]?=some l→H a=some (.lst (l.map V.int))) (hp:H p=none):Ls (L2.upd H p (.lst (xs++bs.map V.ref))) p (ls++ms):=by
 obtain⟨as,h1,h2,h3⟩:=h
 rw[h1] at e;cases e
 refine⟨as++bs,by rw[zac,List.map_append],by simp[h2,hl],λi a l e1 e2=>zae hp _ _ _ ?_⟩
 rw[List.getElem?_append] at e1 e2
 rw[←h2] at e2
 split at e1
 ·rename_i z;rw[if_pos z] at e2;exact h3 i a l e1 e2
 ·rename_i z;rw[if_neg z] at e2;exact hb _ a l e1 e2
theorem zdd {H:Hp}{a:Addr}{l:List Int}(h:H a=some (.lst (l.map V.int))):∀ (i:Nat) b m,[a][i]?=some b→[l][i]?=some m→H b=some (.lst (m.map V.int)):=λi b m e1 e2=>by
 cases i with
 | zero=>simp at e1 e2;subst e1;subst e2;exact h
 | succ i=>simp at e1
theorem zb1 {H:Hp}{a c:Addr}{l k:List Int}(h:H a=some (.lst (l.map V.int))) (h':H c=some (.lst (k.map V.int))):∀ (i:Nat) b m,[a,c][i]?=some b→[l,k][i]?=some m→H b=some (.lst (m.map V.int)):=λi b m e1 e2=>by
 cases i with
 | zero=>simp at e1 e2;subst e1;subst e2;exact h
 | succ i=>
  cases i with
  | zero=>simp at e1 e2;subst e1;subst e2;exact h'
  | succ i=>simp at e1
theorem zcv {K:Fg}{H:Hp}{a:Addr}{bs:List Addr}{ms:List (List Int)}(e:H a=some (.lst (bs.map V.ref))) (hl:bs.length=ms.length) (hb:∀ (i:Nat) b l,bs[i]?=some b→ms[i]?=some l→H b=some (.lst (l.map V.int))):Rep K H (.lst (ms.map nums)) (.ref a):=(show Ls H a ms from ⟨bs,e,hl,hb⟩).rep
end L2

namespace L2
open PySem PySem.Spec PyProof.Rows PySem.W
def tFs (te:TE):TE:=λσ H Q=>te σ H λx H1=>∃ i:Int,x=.int i∧i.natAbs<zcX∧∀ z,Q (.str z) H1
section
variable {X : Cx} {e : Expr} {te : TE} {a b : Str} {k1 k2 : Nat} {p1 p2 p3 pos : Pos}
theorem pe_fs (he:PE X e te) (ha:a.length≤400) (hb:b.length≤400):PE X (.JoinedStr [.Constant (.str a) k1 p1,.FormattedValue e (-1) none p2,.Constant (.str b) k2 p3] pos) (tFs te):=by
 intro pins s σ H Q I h
 have e0:(Str.empty++a).length=a.length:=by rw[strLen_append];show 0+a.length=_;omega
 refine PySem.wpAny_JoinedStr ?_
 show Joins _ _ _ [eval (.Constant (.str a) k1 p1) X.env,eval (.FormattedValue e (-1) none p2) X.env,eval (.Constant (.str b) k2 p3) X.env] _ _ _
 refine Calls.Constant_str ⟨a,_,rfl,by rw[e0];exact zag (by omega),?_⟩
 refine PySem.wpAny_FormattedValue_plain (thn (he pins _ σ H _ (I.tok _) h) λv s1 ⟨x,H1,I1,rx,i,ex,hi,q⟩=>?_)
 subst ex
 obtain⟨t,rfl⟩:=rx
 have l2:=zhm hi
 have e1:((Str.empty++a)++Str.ofString (toString i)).length=a.length+(Str.ofString (toString i)).length:=by rw[strLen_append,e0]
 have e2:(((Str.empty++a)++Str.ofString (toString i))++b).length=a.length+(Str.ofString (toString i)).length+b.length:=by rw[strLen_append,e1]
 refine PySem.wpAny_formatField_int (zjN hi) ⟨_,_,rfl,by rw[show ((Str.empty++a)++_).length=_ from e1];exact zag (by omega),?_⟩
 refine Calls.Constant_str ⟨b,_,rfl,by rw[show (((Str.empty++a)++_)++b).length=_ from e2];exact zag (by omega),?_⟩
 exact⟨by rw[show (((Str.empty++a)++_)++b).length=_ from e2];exact zag (by omega),.str _,H1,(((I1.tok _).tok _).tok _).tok _,⟨_,rfl⟩,q _⟩
theorem i_fs {σ:St}{H:Hp}{Q:VK}(h:te σ H λx H1=>∃ i:Int,x=.int i∧i.natAbs<zcX∧∀ z,Q (.str z) H1):tFs te σ H Q:=h
end
theorem zlr {P:Program}{w:World}{X:Cx} : zeA (CX1 P w) X E0:=λ_ _ _ _ _ _ _ h=>by
 obtain⟨_,_,_,_,_,_,_,_,_,h⟩:=h
 exact h.elim
theorem zmf {sp:Sp}{t:TA}{E:XK}{σ:St}{H:Hp}{Q:VK}(h:t σ H λvs H1=>sp vs H1 Q E):zih sp [] E t σ H Q:=by
 have e:(λ(vs:List V) (H1:Hp)=>sp (vs++[]) H1 Q E)=λvs H1=>sp vs H1 Q E:=by funext vs H1;rw[List.append_nil]
 show t σ H λvs H1=>sp (vs++[]) H1 Q E
 rw[e];exact h
theorem zmh {C:Value}{E:XK}{t:TA}{D:Ends}{σ:St}{H:Hp}(h:t σ H λvs H1=>vs.length≤sizeLine∧E C none H1):zlo C E t D σ H:=h
end L2
namespace L2
open PySem PySem.Spec PyProof.Rows PySem.W
theorem Acc.ext {H H2 H3:Hp}{da b:Addr}{ds ds2:List D}{vs zs:List V}(a:Acc H da H2 ds vs) (f:Free H H2) (s:Same H2 H3) (n:New H2 H3 (.lst ds2) (.ref b)) (hb:H3 b=some (.lst zs)):Acc H da (upd H3 da (.lst (vs++zs))) (ds++ds2) (vs++zs):=by
 obtain⟨fp,h1,h2,h3,h4,h5⟩:=a
 obtain⟨b',zs',fq,e,b0,g1,g2,g3,g4,g5⟩:=New.lst_out n
 cases e
 have ez:zs'=zs:=by rw[g1] at hb;injection hb with hb;injection hb
 subst ez
 have hd3:=s _ _ h1
 have tk:=zfF (o:=.lst (vs++zs')) hd3
 have ndq:da∉fq:=λm=>by have:=g5 da m;rw[h1] at this;cases this
 have k1:∀ c∈fp,(upd H3 da (.lst (vs++zs'))) c=H2 c:=λc hc=>by
  obtain⟨o,ho⟩:=zaj.has ds h2 c hc
  rw[zaw (show c≠da from λz=>h4 (by rw[←z];exact hc)),ho]
  exact s _ _ ho
 have k2:∀ c∈fq,(upd H3 da (.lst (vs++zs'))) c=H3 c:=λc hc=>by rw[zaw (show c≠da from λz=>ndq (by rw[←z];exact hc))]
 refine⟨fp++fq,zac,(zaj.frame (s.tups.trans tk) ds k1 h2).append (zaj.frame tk ds2 k2 g2),List.nodup_append.mpr ⟨h3,g3,λx hx y hy z=>?_⟩,λm=>(zma.mp m).elim h4 ndq,λc m=>?_⟩
 ·subst z
  obtain⟨o,ho⟩:=zaj.has ds h2 x hx
  have:=g5 x hy
  rw[ho] at this;cases this
 ·rcases zma.mp m with m | m
  ·exact h5 c m
  ·exact f c (g5 c m)
end L2
namespace L2
open PySem PySem.Spec PyProof.Rows PySem.W
theorem i_try {tb:XK→TS}{th:Value→Addr→TS}{D:Ends}{σ:St}{H:Hp}(h:tb (λC _ H'=>∀ a,th C a D σ H') D σ H):tTry tb th D σ H:=h
end L2

namespace L2
open PySem PySem.Spec PyProof.Rows PySem.W PySem.Calls
theorem zjO:∀ {ns:List Int}{us:List Value},ns.length=us.length→(∀ (j:Nat) (u:Value),us[j]?=some u→∃ (i:Int) (t:Tok),ns[j]?=some i∧u=Value.int i t)→Vals (ns.map V.int) us
 | [],[],_,_=>.nil
 | [],_::_,e,_=>by simp at e
 | _::_,[],e,_=>by simp at e
 | n::ns,u::us,e,h=>by
  obtain⟨i,t,e1,e2⟩:=h 0 u rfl
  have e1:n=i:=by simpa using e1
  subst e1
  exact .cons ⟨t,e2⟩ (zjO (by simpa using e) λj v hv=>by
   obtain⟨i,t,q1,q2⟩:=h (j+1) v (by simpa using hv)
   exact⟨i,t,by simpa using q1,q2⟩)
def zls:List V→Hp→VK→Prop:=λxs H Q=>∃ (a:Addr) (kvs:List (Key × V)) (ns:List Int),xs=[.ref a]∧H a=some (.dK kvs)∧kvs.map (·.1)=ns.map Sum.inl∧ns.length<64∧∀ (l:Addr) (ns':List Int),H l=none→ns'.Perm ns→ns'.Pairwise (·≤·)→Q (.ref l) (upd H l (.lst (ns'.map V.int)))
theorem zcl {X:Cx}(hc:X.calm=true):zbZ X (.builtin "sorted") zls:=by
 intro pins s σ H xs us Q I r h
 obtain⟨a,kvs,ns,rfl,ha,hk,h64,q⟩:=h
 obtain⟨u,rfl,rx⟩:=zf8 r
 cases rx
 obtain⟨z,hd,vs,rel,dd⟩:=zjp I.hok ha
 obtain⟨ep,hat⟩:=dd.dictAt
 have hl:=rel.length
 have lk:kvs.length=ns.length:=by
  have:=congrArg List.length hk
  simpa using this
 refine call_function_entry kind_sorted plain_sorted entry_sorted (args_sorted1 _) ?_
 unfold Builtin.«sorted»
 refine wpAny_bind (m:=checkCount "sorted" 1 1 _) (wpAny_pure ?_)
 refine wpAny_bind (kdu_collect (A:=X.A.in1) (kdl_dict (knd:=zbj X.prog X.w) (kvs:=vs) (ep:=ep) hd) (show X.A.in1.handled=none from I.ok.hd hc) hat (by rw[←hl];exact z) λh' tk acc hk' hacc=>?_)
 have hla:acc.toList.length=vs.length:=by rw[Array.length_toList];exact hacc.1
 have vl:Vals (ns.map V.int) acc.toList:=zjO (by omega) λj u hu=>by
  obtain⟨k,x,hx,hk2⟩:=hacc.2 j u (by rw[←Array.getElem?_toList];exact hu)
  have e:(vs.map (·.1))[j]?=some k:=by rw[zgm,hx];rfl
  rw[←rel.keys,hk,zgm] at e
  obtain⟨i,hi,rfl⟩:=zme.mp e
  rcases zbe (show zg5 (Sum.inl i) u=true from hk2) with ⟨i',t,e,rfl⟩ | ⟨x',t,e,rfl⟩
  ·cases e;exact⟨i,t,hi,rfl⟩
  ·cases e
 refine wpAny_bind (wpAny_newList ?_ (by rw[hla,←hl];exact z))
 have hoL:(h'.push {cls:=.type "list",data:=.seq acc.toList.toArray}).get? h'.objs.size=some (seqObj "list" acc.toList.toArray 0):=Heap.get?_push_size _ rfl
 have I1:Inv X pins σ H {s with heap:=h',toks:=tk}:=I.kept hk'
 refine wpAny_bind (wpAny_holding (wpAny_call_entry slot_list_sort ⟨_,hoL,rfl⟩ entry_list_sort (list_sort_tree hoL (zik vl) (by omega) λout ns' a1 a2 a3=>⟨_,rfl,?_⟩) (args_list_sort _)))
 refine wpAny_pure ⟨_,rfl,?_⟩
 obtain⟨e,he⟩:=sortedHeap_at (out:=out) hoL
 have zn:(ns'.map V.int).length≤sizeLine:=by rw[zlm,a2.length_eq];exact zag (by omega)
 refine⟨.ref h'.objs.size,_,I1.laid (a:=h'.objs.size) (t':=tk) (λb u hu=>?_) (Nat.le_refl _) (show zbL X.prog X.w _ _ _ (.lst (ns'.map V.int)) from ⟨zn,out.toList,e,zeF a1,by rw[Array.toArray_toList];exact he⟩),rfl,q _ _ I1.fresh a2 a3⟩
 have hu:h'.get? b=some u:=hu
 have hlt:=Heap.lt_size hu
 show (sortedHeap (h'.push {cls:=.type "list",data:=.seq acc.toList.toArray}) h'.objs.size acc.toList out).get? b=some u
 rw[sortedHeap_old (Nat.ne_of_lt hlt) (by rw[size_push'];exact Nat.lt_succ_of_lt hlt)]
 exact Heap.get?_push_of_some _ hu
theorem zcB:bootBuiltins "sorted"=some (.builtin "sorted"):=by decide +kernel
theorem zfL {H:Hp}{Q:VK}{a:Addr}{kvs:List (Key × V)}{ns:List Int}(h:H a=some (.dK kvs)) (e:kvs.map (·.1)=ns.map Sum.inl) (l:ns.length<64) (q:∀ (l:Addr) (ns':List Int),H l=none→ns'.Perm ns→ns'.Pairwise (·≤·)→Q (.ref l) (upd H l (.lst (ns'.map V.int)))):zls [.ref a] H Q:=⟨a,kvs,ns,rfl,h,e,l,q⟩
theorem zeP:∀ {a b:List Int},a.Perm b→a.Pairwise (·≤·)→b.Pairwise (·≤·)→a=b
 | [],b,p,_,_=>by rw[List.nil_perm.mp p]
 | x::a,[],p,_,_=>by have:=p.length_eq;simp at this
 | x::a,y::b,p,h1,h2=>by
  have e:x=y:=by
   have m1:x∈y::b:=p.mem_iff.mp List.mem_cons_self
   have m2:y∈x::a:=p.mem_iff.mpr List.mem_cons_self
   rcases List.mem_cons.mp m1 with z | z
   ·exact z
   rcases List.mem_cons.mp m2 with w | w
   ·exact w.symm
   have u1:=(List.pairwise_cons.mp h2).1 x z
   have u2:=(List.pairwise_cons.mp h1).1 y w
   omega
  subst e
  rw[zeP (List.perm_cons x |>.mp p) (List.pairwise_cons.mp h1).2 (List.pairwise_cons.mp h2).2]
theorem znM {σ:St}{H:Hp}{Q:VK}{td ty:TE}(h:td σ H λx H1=>∃ a,x=.ref a∧IsD H1 a∧ty σ H1 λy H2=>∃ kvs k v,H2 a=some (.dK kvs)∧y=kV k∧valV kvs k=some v∧Q v (upd H2 a (.dK (zb0 kvs k)))):zle td ty σ H Q:=h
theorem znN {σ:St}{H:Hp}{Q:VK}(h:∀ p,H p=none→Q (.ref p) (upd H p (.dK []))):zlb σ H Q:=h
theorem zeQ {κ:Type} [DecidableEq κ] (k j:κ):∀ kvs:List (κ × V),valV (zb0 kvs k) j=if j=k then none else valV kvs j
 | []=>by simp[zb0,valV]
 | p::r=>by
  have ih:=zeQ k j r
  by_cases e:p.1=k
  ·rw[zjw e,ih]
   by_cases z:j=k
   ·rw[if_pos z,if_pos z]
   ·rw[if_neg z,if_neg z,zbt (λw=>z (w.symm.trans e))]
  ·rw[zjx e]
   by_cases w:p.1=j
   ·rw[zbv w,zbv w,if_neg (λz=>e (w.trans z))]
   ·rw[zbt w,zbt w,ih]
section
variable {X : Cx} {e : Expr} {te : TE} {a : Str} {k1 : Nat} {p1 p2 pos : Pos}
end
section
variable {X : Cx} {k j : Nat} {C : Addr} {ps : List Str} {sp : Sp} {x : Str} {p pos : Pos}
end
end L2

namespace L2
open PySem PySem.Spec PyProof.Rows PySem.SeqAt
theorem ndS {N:List Str}(h:N.Nodup:=by decide +kernel):N.Nodup:=h
theorem CompOk.m {sc0:Scope}{N:List Str}{scope:Scope}{N':List Str}{ms:List Bool}(kind:scope.kind=.function:=by rfl) (nocell:∀ y∈scope.names,y.2≠.cell:=by decide +kernel)
  (nm:∀ y∈scope.names,y.2=.local→scope.names.lookup y.1=some .local:=by decide +kernel) (fr:∀ y∈scope.names,y.2=.free→sc0.names.lookup y.1=some .cell∨sc0.names.lookup y.1=some .free:=by decide +kernel)
  (len:ms.length=N'.length:=by rfl) (sl:zeJ N scope N' ms (N.map some)=true:=by decide +kernel):CompOk sc0 N scope N' ms:=CompOk.mk' kind nocell nm fr len sl
section
variable {X : Cx} {k : Nat} {pins : List (Addr × Obj)} {σ : St} {H : Hp} {s : Shared}
end
end L2

namespace L2
open PySem PySem.Spec PySem.Calls PyProof.Rows PySem.W
theorem zkU {K:Fg}{x t c:Value}{H:Heap→Prop}(ty:∀ (M:Model) (h:Heap),K.In h→H h→Looks M h (typeOf x) t) (e:kitOne K t c=some true):Answers (λs=>K.In s.heap∧H s.heap) x c true:=by
 intro dep tk prog w A R s hs
 obtain⟨h0,g,d,tt,os⟩:=s
 obtain⟨⟨X,p⟩,hq⟩:=hs
 have LT:=ty (model prog w) h0 X p
 unfold kitOne at e
 unfold Builtin.«isinstance.nested»
 refine wpAny_bind (LT.at ?_)
 by_cases q:(t == c)=true
 ·rw[if_pos q]
  first
   | ((repeat lk);exact hq tt)
   | exact wpAny_bind (wpAny_rule (hq tt))
   | exact wpAny_bind (wpAny_rule (wpAny_pure (hq tt)))
 ·rw[if_neg q] at e
  rw[if_neg q]
  obtain⟨hty,his,hsub⟩:=kit_cls (M:=model prog w) X e
  have LI:Looks (model prog w) h0 (isInstance x c) true:=LT.andThen hsub
  refine wpAny_bind (hty.at ?_)
  rw[if_pos (by decide)]
  k_delta "plainIsInstance"
  refine wpAny_bind (wpAny_bind (his.at ?_))
  simp only[Bool.not_true,Bool.false_eq_true,if_false]
  refine wpAny_bind (LI.at ?_)
  first
   | exact wpAny_pure (wpAny_pure (hq tt))
   | (simp only[if_true];first | exact wpAny_pure (wpAny_pure (hq tt)) | exact wpAny_pure (hq tt) | exact wpAny_bind (wpAny_pure (wpAny_pure (hq tt))))
def rIsy (K:Fg) (a:Addr) (c:Value):List V→Hp→VK→Prop:=λxs H Q=>∃ C D anc ancD,xs=[.ref a,.ref D]∧c=.ref C∧Err K C anc∧Err K D ancD∧(Value.ref C::anc).contains (.ref D)=true∧Q (.bl true) H
theorem k_isy {X:Cx}{a:Addr}{o:Obj}(hd:o.dict=none) (hn:∀ v,o.data≠.cls v) (K:Fg) (hK:X.K=K:=by rfl):zbZ (XH X a o) (.builtin "isinstance") (rIsy K a o.cls):=by
 subst hK
 intro pins s σ H xs us Q I r h
 obtain⟨C,D,anc,ancD,rfl,hc,h1,h2,h3,q⟩:=h
 obtain⟨u,v,rfl,ru,rv⟩:=zkn r
 cases ru;cases rv
 have e:kitOne X.K (.ref C) (.ref D)=some true:=by rw[zl8 h1 h2,h3]
 refine call_isinstance (S:=λ_ R s=>(X.K.In s.heap∧s.heap.get? a=some o)∧∀ tk,R (.ok (.ret (.bool true))) {s with toks:=tk})
  (λprog w A R s hs=>isinstance_outer (zkU (H:=λh=>h.get? a=some o) (λM h _ ho=>hc ▸ (Looks.ld ho).andThen .now) e 0 _ prog w A R s hs) (λz=>nomatch z)) ⟨⟨I.kIn,(I.pin (a,o) (List.mem_append_left _ (.head _))).1⟩,λtk=>⟨.bl _,H,I.tok tk,rfl,q⟩⟩
structure Kn (u:TS) (D:Ends) (NX:St→Hp→Prop):Prop where
 on:∀ σ H,u D σ H→NX σ H
theorem zlt {t u:TS}{D:Ends}{σ:St}{H:Hp}(h:∀ NX:St→Hp→Prop,Kn u D NX→t {D with nx:=NX} σ H):tSeq t u D σ H:=h _ ⟨λ_ _ q=>q⟩
theorem goOn {u:TS}{D:Ends}{NX:St→Hp→Prop}{σ:St}{H:Hp}(k:Kn u D NX) (h:u D σ H):NX σ H:=k.on _ _ h
theorem i_ifK {c:TT}{t u:TS}{D:Ends}{σ:St}{H:Hp}(h:∀ T:St→Hp→Prop,Kn t D T→∀ U:St→Hp→Prop,Kn u D U→c σ H λb H1=>if b=true then T σ H1 else U σ H1):tIfS c t u D σ H:=h _ ⟨λ_ _ q=>q⟩ _ ⟨λ_ _ q=>q⟩
end L2

namespace L2
open PySem PySem.Spec PySem.Calls PyProof.Rows PySem.W
theorem znO {K:Fg}{a:Addr}{n q:Str}{ps:Arguments}{b:List Stmt}{sc:Scope}(h:zbc K a=some (zly n q ps b sc)) (hc:zaD K a q=true) :
  ∃ oc od sl kV dc pm an cd ct,K.lookup a=some ⟨oc,od,.func (fnOf n q ps b sc .none kV dc pm an cd ct),sl⟩∧codeIn K cd q=true∧keepIn K (.ref a)=true:=by
 unfold zbc at h
 unfold zaD at hc
 split at h
 ·rename_i oc od f sl e
  rw[e] at hc
  simp only[Bool.and_eq_true] at hc
  obtain⟨c1,c2⟩:=hc
  obtain⟨f1,f2,f3,f4,f5,f6,f7,f8,f9,f10,f11,f12,f13,f14,f15⟩:=f
  have h:=Option.some.inj h
  unfold zly at h
  simp only[Prod.mk.injEq] at h
  obtain⟨rfl,rfl,rfl,rfl,rfl,rfl,rfl,rfl,rfl⟩:=h
  exact⟨oc,od,sl,_,_,_,_,_,_,e,c1,c2⟩
 ·cases h
theorem exc_of {K:Fg}{C:Addr}{bm:List Value}{newId:String}(h:zhF K C bm newId=true) :
  ∃ nm q N bs hdct sn sub ab col dd k0 k1 k2 k3 k5,K.lookup C=some (excClassObj nm q C N bs bm hdct sn sub ab col dd k0 k1 k2 k3 k5 newId):=by
 unfold zhF at h
 split at h
 ·rename_i cl dd c sl e
  simp only[Bool.and_eq_true] at h
  obtain⟨⟨⟨h1,h2⟩,h3⟩,h4⟩:=h
  obtain⟨c1,c2,c3,c4,c5,c6,c7,c8,c9,c10,c11⟩:=c
  have h1:=eq_of_beq h1
  have h2:c3=.ref C::bm:=eq_of_beq h2
  have h30:c11=false:=by cases c11 <;> first | rfl | cases h3
  subst h1 h2 h30
  split at h4
  ·rename_i k0 k1 k2 k3 v k5 es
   have h4:=eq_of_beq h4
   subst h4
   have es:sl=#[k0,k1,k2,k3,some (.builtin newId),k5]:=by rw[←Array.toArray_toList (xs:=sl),es]
   subst es
   exact⟨_,_,_,_,_,_,_,_,_,_,_,_,_,_,_,e⟩
  ·cases h4
 ·cases h
theorem tup_of {K:Fg}{a:Addr}{vs:List Value}(h:ziX K a vs=true):∃ dd n ss,K.lookup a=some ⟨.type "tuple",dd,.seq vs.toArray n,ss⟩:=by
 unfold ziX at h
 split at h
 ·rename_i cl dd xs n ss e
  simp only[Bool.and_eq_true] at h
  obtain⟨h1,h2⟩:=h
  have h1:=eq_of_beq h1
  have h2:xs.toList=vs:=eq_of_beq h2
  subst h1 h2
  exact⟨dd,n,ss,by rw[Array.toArray_toList];exact e⟩
 ·cases h
theorem walk_ofE {l:PySem.W.OpenLaw}{n k:Nat}{q:Program}{loose:List Str}{XP:(Str→Option Value)→Heap→Prop}{YP:World→Heap→Prop}{d:DefRec}{S:Fg→Prop}{CX:CXT}{sp:Fg→Sp}{x:Str}
  (hn:l.most=some n) (hn2:n≤sizeLine) (hdf:d.params.defaults=[]) (hr:Room k callerA)
  (hY:∀ (w:World) (h:Heap),YP w h→∃ K:Fg,K.In h∧S K)
  (F:∀ (w:World) (K:Fg) (mg:Str→Option Value) (fa:Addr) (h:Heap),S K→K.In h→h.Ns mainGlobals mg→mg d.name=some (.ref fa)→
   ∃ fd:FuncData,(∀ (s:Shared) (u:Value),BindsTo s fd ⟨[u],[]⟩ [(x,u)])∧
    ∀ base:Heap,K.In base→base.Ns mainGlobals mg→FnOk l.prog w K mg base CX k fa fd [x] (sp K))
  (hsp:∀ (K:Fg) (H:Hp) (a:Addr) (ns:List Int),ns.length≤n→Only H→SqL K H a (ns.map V.int)→sp K [.ref a] H (λv _=>v=.bl true) λ_ _ _=>False)
  (hCX:∀ (H:Hp) (s:Shared) (e:Value) (s':Shared),CX [] H s (λ_ _ _=>False) e s'→False) :
  PySem.W.WalkO q loose XP YP l.row.toRowW d [] (λf vs=>PySem.call f vs):=by
 refine Att.attach_call hn hdf λw s₀ s₁ mg mb fa o pm cd doc a vs ns G Y ho hd hcd hmg hobj hints hlen hg=>?_
 obtain⟨K,KX,hS⟩:=hY w _ Y
 obtain⟨fd,hb,hF⟩:=F w K mg fa _ hS KX G.T.g hmg
 exact zku KX G.T.g G.T.b G.T.builtins G.T.nolimit hg hobj hints (Nat.le_trans hlen hn2) hr hF hb (λH hO hS=>hsp K H a ns hlen hO hS) λH e s'=>hCX H s₁ e s'
end L2

namespace My
def mix (c k m:Int):Int:=(c % 2147483647+12345) * (48271+6 * k) % 1000000007 / 7 % m
def zkV (i:Int):Int:=if i=0 then 1000000000 else if i=1 then -1000000000 else if i=2 then 999999999 else -999999999
def number (c k:Int):Int:=
 if mix c k 9=0 then c % 2000000001 - 1000000000
 else if mix c k 9=1 then zkV (mix c (k+1) 4)
 else mix c (k+2) 9 - 4
theorem zbl {c k m:Int}(h:0<m):0≤mix c k m:=Int.emod_nonneg _ (by omega)
theorem zdM {c k m:Int}(h:0<m):mix c k m<m:=Int.emod_lt_of_pos _ h
theorem zkW (i:Int):-1000000000≤zkV i∧zkV i≤1000000000:=by
 unfold zkV
 split
 ·omega
 ·split
  ·omega
  ·split <;> omega
theorem zjP (c k:Int):-1000000000≤number c k∧number c k≤1000000000:=by
 unfold number
 split
 ·have h1:=Int.emod_nonneg c (show (2000000001:Int)≠0 by decide)
  have h2:=Int.emod_lt_of_pos c (show (0:Int)<2000000001 by decide)
  omega
 ·split
  ·exact zkW _
  ·have h1:=zbl (c:=c) (k:=k+2) (m:=9) (by decide)
   have h2:=zdM (c:=c) (k:=k+2) (m:=9) (by decide)
   omega
def cell (ns:List Int) (k:Int):Int:=ns.getD k.toNat 0
end My

namespace My
def zaq (i:Int):List Int:=0::(List.range 8).map λ(k:Nat)=>if (0+(k:Int))=i then 1 else 0
def addW (w:Int) (t l:List Int):List Int:=List.zipWith (λs n=>s+n * w) t l
def zcg (ps:List (List Int × Int)) (t:List Int):List Int:=ps.foldl (λt p=>addW p.2 t p.1) t
def zbr (ls:List (List Int)) (ws:List Int):List Int:=zcg (ls.zip ws) (List.replicate 9 0)
def zbm (c:Int):List Int→List Int
 | []=>[]
 | x::r=>(x+c)::r
def zaG (line:List Int) (eight:List (List Int)):List Int:=zbm (line.headD 0) (zbr eight line.tail)
theorem zcb {w:Int}{t l:List Int}(h1:t.length=9) (h2:l.length=9):(addW w t l).length=9:=by
 unfold addW;rw[List.length_zipWith,h1,h2];rfl
theorem zcm:∀ (ps:List (List Int × Int)) (t:List Int),t.length=9→(∀ p∈ps,p.1.length=9)→(zcg ps t).length=9
 | [],t,h,_=>h
 | p::ps,t,h,hp=>zcm ps _ (zcb h (hp p List.mem_cons_self)) λq hq=>hp q (List.mem_cons_of_mem _ hq)
theorem zfM {ls:List (List Int)}{ws:List Int}(h:∀ l∈ls,l.length=9):∀ p∈ls.zip ws,p.1.length=9:=λp hp=>h p.1 (List.of_mem_zip hp).1
theorem zaL {ls:List (List Int)}{ws:List Int}(h:∀ l∈ls,l.length=9):(zbr ls ws).length=9:=zcm _ _ (by simp) (zfM h)
theorem zfp (ps:List (List Int × Int)) (p:List Int × Int) (t:List Int):zcg (ps++[p]) t=addW p.2 (zcg ps t) p.1:=by
 unfold zcg;rw[List.foldl_append];rfl
theorem zjQ {ls:List (List Int)}{ws:List Int}{i:Nat}{l:List Int}{w:Int}(h1:ls[i]?=some l) (h2:ws[i]?=some w):(ls.zip ws)[i]?.toList=[(l,w)]:=by
 rw[(List.getElem?_zip_eq_some (z:=(l,w))).mpr ⟨h1,h2⟩];rfl
end My

namespace My
open PySem L2
def zeq (c:Int) (zero:List Int) (k:Nat):Bool:=inV (.int (0+(k:Int))) (zero.map V.int) || decide (mix c (60+(0+(k:Int))) 3=0)
def zbS (c:Int) (zero:List Int):List Int:=(List.range 9).map λj=>if decide (0<j) && zeq c zero (j - 1) then 0 else number c (5 * (0+(j:Int)))
def zcY (c:Int) (zero:List Int) (i:Nat):List Int:=(List.range 9).map λj=>if decide (0<j) && decide (j - 1<i) && zeq c zero (j - 1) then 0 else number c (5 * (0+(j:Int)))
theorem zjR {f:Nat→Int}{n p:Nat}{v:Int}(hp:p<n):((List.range n).map f).set p v=(List.range n).map λj=>if j=p then v else f j:=by
 refine List.ext_getElem? λi=>?_
 by_cases hi:i<n
 ·by_cases e:i=p
  ·subst e
   rw[List.getElem?_set_self (by simpa using hi),zgm,List.getElem?_range hi]
   simp
  ·rw[List.getElem?_set_ne (Ne.symm e),zgm,zgm,List.getElem?_range hi]
   simp[e]
 ·rw[List.getElem?_eq_none (by simp;omega),List.getElem?_eq_none (by simp;omega)]
theorem zcC {f g:Nat→Int}{n:Nat}(h:∀ j,j<n→f j=g j):(List.range n).map f=(List.range n).map g:=
 List.map_congr_left λj hj=>h j (List.mem_range.mp hj)
theorem zjS {c:Int}{zero:List Int}{i:Nat}(hi:i<8) (h:zeq c zero i=true):(zcY c zero i).set (i+1) 0=zcY c zero (i+1):=by
 unfold zcY
 rw[zjR (by omega)]
 refine zcC λj hj=>?_
 by_cases e:j=i+1
 ·subst e;simp[h]
 ·rw[if_neg e]
  have:decide (j - 1<i)=decide (j - 1<i+1)∨j=0:=by
   by_cases h0:j=0
   ·exact .inr h0
   ·refine .inl (decide_eq_decide.mpr ⟨λz=>by omega,λz=>by omega⟩)
  rcases this with z | z
  ·rw[z]
  ·subst z;simp
theorem zit {c:Int}{zero:List Int}{i:Nat}(h:zeq c zero i=false):zcY c zero i=zcY c zero (i+1):=by
 unfold zcY
 refine zcC λj hj=>?_
 by_cases e:j=i+1
 ·subst e;simp[h]
 ·have:decide (j - 1<i)=decide (j - 1<i+1)∨j=0:=by
   by_cases h0:j=0
   ·exact .inr h0
   ·refine .inl (decide_eq_decide.mpr ⟨λz=>by omega,λz=>by omega⟩)
  rcases this with z | z
  ·rw[z]
  ·subst z;simp
theorem ziu (c:Int) (zero:List Int):zcY c zero 0=(List.range 9).map λ(j:Nat)=>number c (5 * (0+(j:Int))):=by
 unfold zcY;refine zcC λj hj=>?_;simp
theorem zjT (c:Int) (zero:List Int):zcY c zero 8=zbS c zero:=by
 unfold zcY zbS
 refine zcC λj hj=>?_
 have:decide (j - 1<8)=true:=decide_eq_true (by omega)
 rw[this,Bool.and_true]
theorem zaW (c:Int) (zero:List Int):(zbS c zero).length=9:=by simp[zbS]
theorem zgA (c:Int) (zero:List Int) (i:Nat):(zcY c zero i).length=9:=by simp[zcY]
theorem zjU {c:Int}{zero:List Int} : ∀ f∈zbS c zero,-1000000000≤f∧f≤1000000000:=λf h=>by
 obtain⟨k,_,rfl⟩:=zmm.mp h
 split
 ·omega
 ·exact zjP _ _
def zcZ (c:Int) (zero:List Int):List (List Int):=(List.range (mix c 20 3).toNat).map λ(k:Nat)=>zbS (c+77 * (0+(k:Int))) zero
theorem ziv {c:Int}{zero:List Int}{l:List Int}(h:l∈zcZ c zero):∃ c',l=zbS c' zero:=by
 obtain⟨k,_,rfl⟩:=zmm.mp h
 exact⟨_,rfl⟩
theorem zeR (c:Int) (zero:List Int):(zcZ c zero).length≤2:=by
 have h1:=zbl (c:=c) (k:=20) (m:=3) (by decide)
 have h2:=zdM (c:=c) (k:=20) (m:=3) (by decide)
 simp[zcZ];omega
def byOf (c:Int):Int:=if mix c 6 4=0 then 1 else if mix c 6 4=1 then 1000 else if mix c 6 4=2 then 1+mix c 5 1000 else 2
def zkX (c:Int):Int:=number (c / 13) 7
def zlu (c:Int):Int:=if number (c / 17) 8>zkX c then number (c / 17) 8 else zkX c
def zjV (c count:Int):D:=
 if mix c 4 6=0 then .tup [.str "set",.int (mix c 3 4),nums (zbS (c / 11) [6,7])]
 else if mix c 4 6=1 then .tup [.str "part",.int (mix c 3 4),nums (zbS (c / 11) [6,7]),.int (byOf c)]
 else if mix c 4 6=2 then .tup [.str "draw",.int (mix c 3 4),.int (zkX c),.int (zlu c)]
 else if mix c 4 6=3 then .tup [.str "turn",nums (zbS (c / 11) [6,7]),.int (mix c 9 (count+1))]
 else if mix c 4 6=4 then .tup [.str "hold",nums (zbS (c / 11) [6,7])]
 else .tup [.str "call",.int (mix c 12 100),.tup [.int (mix c 10 4),.int (mix c 11 4)],.tup [.int (mix c 3 4),.int ((mix c 3 4+1+mix c 13 3) % 4)]]
def zeh (ns:List Int) (start:Int):List (List Int):=zcZ (cell ns start) [0,1,2,3,6,7]
def zcD (ns:List Int) (start:Int):List (List Int):=zcZ (cell ns (start+1)) [0,1,2,3]
def zfq (ns:List Int) (start count:Int):List D:=(List.range count.toNat).map λ(k:Nat)=>zjV (cell ns (start+2+(0+(k:Int)))) count
def zcw (ns:List Int) (start count:Int):List (List (List Int)):=(List.range count.toNat).map λ(k:Nat)=>zcZ (cell ns (start+2+(0+(k:Int))) / 19) [6,7]
def zaI (ls:List (List Int)):D:=.lst (ls.map nums)
def znP (ns:List Int) (start count:Int):D:=.lst [zaI (zeh ns start),zaI (zcD ns start),.lst (zfq ns start count),.lst ((zcw ns start count).map zaI)]
end My
namespace My
open PySem L2
def zgB:List Int:=[0,1,2,3,4,5,0,1]
def zbF:List (List Int):=zgB.map zaq
def dueL (leaves:List (List Int)) (notes:List (List (List Int))) (place:Int):List (List Int):=if place=(notes.length:Int) then leaves.map λl=>zaG l zbF else notes.getD place.toNat []
theorem zjW {i:Int} : ∀ n∈zaq i,n=0∨n=1:=λn h=>by
 rcases List.mem_cons.mp h with h | h
 ·exact .inl h
 ·obtain⟨k,_,rfl⟩:=zmm.mp h
  split
  ·exact .inr rfl
  ·exact .inl rfl
theorem ziw:∀ l∈zbF,l.length=9:=λl h=>by
 obtain⟨i,_,rfl⟩:=zmm.mp h
 simp[zaq]
theorem zix:∀ l∈zbF,∀ n∈l,n=0∨n=1:=λl h n hn=>by
 obtain⟨i,_,rfl⟩:=zmm.mp h
 exact zjW n hn
end My
namespace My
open PySem L2
theorem zdC {c:Int}{zero:List Int} : ∀ l∈zcZ c zero,l.length=9:=λl h=>by
 obtain⟨c',rfl⟩:=ziv h
 exact zaW _ _
end My

namespace My
open PySem L2
inductive Dd where
 | set (hand:Int) (line:List Int) | part (hand:Int) (line:List Int) (by':Int) | draw (hand low high:Int)
 | turn (line:List Int) (place:Int) | hold (line:List Int) | call (number g0 g1 t0 t1:Int)
def toD:Dd→D
 | .set h l=>.tup [.str "set",.int h,nums l]
 | .part h l b=>.tup [.str "part",.int h,nums l,.int b]
 | .draw h lo hi=>.tup [.str "draw",.int h,.int lo,.int hi]
 | .turn l p=>.tup [.str "turn",nums l,.int p]
 | .hold l=>.tup [.str "hold",nums l]
 | .call n g0 g1 t0 t1=>.tup [.str "call",.int n,.tup [.int g0,.int g1],.tup [.int t0,.int t1]]
def zjX:Dd→Prop
 | .set _ l=>l.length=9
 | .part _ l _=>l.length=9
 | .turn l _=>l.length=9
 | .hold l=>l.length=9
 | _=>True
end My

namespace My
open PySem L2
def zfN (c count:Int):Dd:=
 if mix c 4 6=0 then .set (mix c 3 4) (zbS (c / 11) [6,7])
 else if mix c 4 6=1 then .part (mix c 3 4) (zbS (c / 11) [6,7]) (byOf c)
 else if mix c 4 6=2 then .draw (mix c 3 4) (zkX c) (zlu c)
 else if mix c 4 6=3 then .turn (zbS (c / 11) [6,7]) (mix c 9 (count+1))
 else if mix c 4 6=4 then .hold (zbS (c / 11) [6,7])
 else .call (mix c 12 100) (mix c 10 4) (mix c 11 4) (mix c 3 4) ((mix c 3 4+1+mix c 13 3) % 4)
theorem zjY (c count:Int):toD (zfN c count)=zjV c count:=by
 unfold zfN zjV
 split
 ·rfl
 split
 ·rfl
 split
 ·rfl
 split
 ·rfl
 split <;> rfl
theorem zho (c count:Int):zjX (zfN c count):=by
 unfold zfN
 split
 ·exact zaW _ _
 split
 ·exact zaW _ _
 split
 ·trivial
 split
 ·exact zaW _ _
 split
 ·exact zaW _ _
 ·trivial
def zcM (ns:List Int) (start count:Int):List Dd:=(List.range count.toNat).map λ(k:Nat)=>zfN (cell ns (start+2+(0+(k:Int)))) count
theorem ziy (ns:List Int) (start count:Int):(zcM ns start count).map toD=zfq ns start count:=by
 unfold zcM zfq
 rw[List.map_map]
 exact List.map_congr_left λk _=>zjY _ _
end My

namespace My
end My

namespace My
open PySem L2
section
variable {needs leaves : List (List Int)} {deeds : List Dd} {notes : List (List (List Int))}
end
end My

namespace My
def kL (n:Int):List Int:=n::List.replicate 8 0
def zcN (line:List Int):List Int:=zbr [line,kL 1] [-1,-1]
def zb5 (lo:Int):List Int:=zbr [zaq 6,kL lo] [1,-1]
def zcx (hi:Int):List Int:=zbr [kL hi,zaq 6] [1,-1]
def za4 (line:List Int) (b:Int):List Int:=zbr [line,zaq 6] [1,-b]
def greatest (line:List Int) (b:Int):List Int:=zbr [zaq 6,kL (b - 1),line] [b,1,-1]
theorem zaX (n:Int):(kL n).length=9:=by simp[kL]
theorem zak (i:Int):(zaq i).length=9:=by simp[zaq]
structure Good (needs leaves:List (List Int)) (n:Nat) (notes:List (List (List Int))):Prop where
 dn:n=notes.length
 d:n≤100
 n:needs.length≤100
 l:leaves.length≤100
 n9:∀ l∈needs,l.length=9
 l9:∀ l∈leaves,l.length=9
 o:∀ ls∈notes,ls.length≤100∧∀ l∈ls,l.length=9
theorem Good.due {needs leaves:List (List Int)}{n:Nat}{notes:List (List (List Int))}(g:Good needs leaves n notes) (place:Int):(dueL leaves notes place).length≤100∧∀ l∈dueL leaves notes place,l.length=9:=by
 unfold dueL
 split
 ·refine⟨by rw[zlm];exact g.l,λl hl=>?_⟩
  obtain⟨m,hm,rfl⟩:=zmm.mp hl
  have h9:∀ l∈zbF,l.length=9:=λl hl=>by
   unfold zbF at hl
   obtain⟨i,_,rfl⟩:=zmm.mp hl
   exact zak i
  have hs:=zaL (ws:=m.tail) h9
  unfold zaG
  cases e:zbr zbF m.tail with
  | nil=>rw[e] at hs;simp at hs
  | cons x r=>rw[e] at hs;simpa [zbm] using hs
 ·rw[List.getD_eq_getElem?_getD]
  cases e:notes[place.toNat]? with
  | none=>simp
  | some ls=>exact g.o ls (zmg e)
theorem zgC {c w:Int}{t l:List Int}(h:l≠[]):addW w (zbm c t) l=zbm c (addW w t l):=by
 cases t with
 | nil=>rfl
 | cons x t=>
  cases l with
  | nil=>exact absurd rfl h
  | cons y l=>
   show (x+c+y * w)::_=(x+y * w+c)::_
   congr 1
   omega
theorem zdN {c:Int} : ∀ (ps:List (List Int × Int)) (t:List Int),(∀ p∈ps,p.1.length=9)→zcg ps (zbm c t)=zbm c (zcg ps t)
 | [],t,_=>rfl
 | p::ps,t,h=>by
  have h9:=h p List.mem_cons_self
  show zcg ps (addW p.2 (zbm c t) p.1)=zbm c (zcg ps (addW p.2 t p.1))
  rw[zgC (by intro z;rw[z] at h9;simp at h9),zdN ps _ λq hq=>h q (List.mem_cons_of_mem _ hq)]
theorem zhp {c:Int}{fs:List Int}{eight:List (List Int)}(h:∀ l∈eight,l.length=9):zcg (eight.zip fs) (kL c)=zaG (c::fs) eight:=by
 have e:kL c=zbm c (List.replicate 9 0):=by
  show c::List.replicate 8 0=(0+c)::List.replicate 8 0
  rw[Int.zero_add]
 rw[e,zdN _ _ (zfM h)]
 rfl
theorem zkY {i:Int}(h:0≤i):((List.range 9).map λ(k:Nat)=>if decide (0+(k:Int)=i+1)=true then (1:Int) else 0)=zaq i:=by
 unfold zaq
 rw[List.range_succ_eq_map,zmc,List.map_map]
 congr 1
 ·rw[decide_eq_false (by omega)];rfl
 ·refine List.map_congr_left λk _=>?_
  show (if decide (0+((k+1:Nat):Int)=i+1)=true then (1:Int) else 0)=if 0+(k:Int)=i then 1 else 0
  by_cases z:0+(k:Int)=i
  ·rw[if_pos z,decide_eq_true (by omega)];rfl
  ·rw[if_neg z,decide_eq_false (by omega)];rfl
end My

namespace My
open PySem L2 PyProof.Rows
def zfO (H:Hp):List D→List V→Prop
 | [],[]=>True
 | d::ds,x::xs=>Part H d x∧zfO H ds xs
 | _,_=>False
theorem zgD {H:Hp} : ∀ {ds:List D}{xs:List V},zfO H ds xs→ds.length=xs.length
 | [],[],_=>rfl
 | _::_,_::_,h=>by rw[List.length_cons,List.length_cons,zgD h.2]
 | [],_::_,h=>h.elim
 | _::_,[],h=>h.elim
theorem zh0 {H:Hp} : ∀ {ds:List D}{xs:List V},zfO H ds xs→∀ (i:Nat) dd x,ds[i]?=some dd→xs[i]?=some x→Part H dd x
 | [],_,_,i,_,_,e,_=>by simp at e
 | _::_,[],h,_,_,_,_,_=>h.elim
 | d::ds,x::xs,h,0,_,_,e1,e2=>by simp at e1 e2;subst e1;subst e2;exact h.1
 | d::ds,x::xs,h,i+1,dd,y,e1,e2=>zh0 h.2 i dd y (by simpa using e1) (by simpa using e2)
theorem zgE {H:Hp} : ∀ {ds:List D}{xs:List V},ds.length=xs.length→(∀ (i:Nat) dd x,ds[i]?=some dd→xs[i]?=some x→Part H dd x)→zfO H ds xs
 | [],[],_,_=>trivial
 | [],_::_,e,_=>by simp at e
 | _::_,[],e,_=>by simp at e
 | d::ds,x::xs,e,h=>⟨h 0 d x rfl rfl,zgE (by simpa using e) λi dd y e1 e2=>h (i+1) dd y (by simpa using e1) (by simpa using e2)⟩
theorem zmi {H:Hp}{t:Addr}{xs:List V}{ds:List D}(h:H t=some (.tup xs)) (l:ds.length≤8) (p:zfO H ds xs):zb4 H (.tup ds) (.ref t):=⟨t,xs,ds,rfl,rfl,h,zgD p,l,zh0 p⟩
theorem za6 {H:Hp}{ds:List D}{v:V}(h:zb4 H (.tup ds) v):∃ t xs,v=.ref t∧H t=some (.tup xs)∧zfO H ds xs:=by
 obtain⟨t,xs,ds',e,rfl,h1,h2,_,h3⟩:=h
 cases e
 exact⟨t,xs,rfl,h1,zgE h2 h3⟩
theorem zam {H:Hp}{d:D}{ds:List D}{xs:List V}(h:zfO H (d::ds) xs):∃ x r,xs=x::r∧Part H d x∧zfO H ds r:=by
 cases xs with
 | nil=>exact h.elim
 | cons x r=>exact⟨x,r,rfl,h.1,h.2⟩
theorem zbn {H:Hp}{xs:List V}(h:zfO H [] xs):xs=[]:=by
 cases xs with
 | nil=>rfl
 | cons x r=>exact h.elim
theorem zbw {H:Hp}{s:Str}{x:V}(h:Part H (.str s) x):x=.str s:=by
 rcases h with ⟨i,e,_⟩ | ⟨z,e,rfl⟩ | ⟨b,l,e,_⟩ | ⟨b,i,j,e,_⟩ <;> cases e
 rfl
theorem za9 {H:Hp}{s:Int}{x:V}(h:Part H (.int s) x):x=.int s:=by
 rcases h with ⟨i,e,rfl⟩ | ⟨z,e,_⟩ | ⟨b,l,e,_⟩ | ⟨b,i,j,e,_⟩ <;> cases e
 rfl
theorem zh1:∀ {l m:List Int},l.map D.int=m.map D.int→l=m
 | [],[],_=>rfl
 | [],_::_,e=>by simp at e
 | _::_,[],e=>by simp at e
 | a::l,b::m,e=>by
  rw[zmc,zmc] at e
  injection e with e1 e2
  injection e1 with e1
  rw[e1,zh1 e2]
theorem zb2 {H:Hp}{l:List Int}{x:V}(h:Part H (nums l) x):∃ b,x=.ref b∧H b=some (.lst (l.map V.int)):=by
 rcases h with ⟨i,e,_⟩ | ⟨z,e,_⟩ | ⟨b,m,e,h1,h2⟩ | ⟨b,i,j,e,_⟩
 ·cases e
 ·cases e
 ·injection e with e
  rw[zh1 e]
  exact⟨b,h1,h2⟩
 ·cases e
theorem zdO {H:Hp}{i j:Int}{x:V}(h:Part H (.tup [.int i,.int j]) x):∃ b,x=.ref b∧H b=some (.tup [.int i,.int j]):=by
 rcases h with ⟨i',e,_⟩ | ⟨z,e,_⟩ | ⟨b,m,e,h1,h2⟩ | ⟨b,i',j',e,h1,h2⟩
 ·cases e
 ·cases e
 ·cases e
 ·cases e
  exact⟨b,h1,h2⟩
theorem pS {H:Hp}{i:Str} : Part H (.str i) (.str i):=.inr (.inl ⟨i,rfl,rfl⟩)
theorem pL {H:Hp}{b:Addr}{l:List Int}(h:H b=some (.lst (l.map V.int))):Part H (nums l) (.ref b):=.inr (.inr (.inl ⟨b,l,rfl,rfl,h⟩))
def R2 {α:Type}(P:α→V→Prop) (as:List α) (xs:List V):Prop:=as.length=xs.length∧∀ (i:Nat) a x,as[i]?=some a→xs[i]?=some x→P a x
theorem R2.nil {α:Type}{P:α→V→Prop} : R2 P [] []:=⟨rfl,λi a x e _=>by simp at e⟩
theorem R2.mono {α:Type}{P P':α→V→Prop}{as:List α}{xs:List V}(h:R2 P as xs) (m:∀ a x,P a x→P' a x):R2 P' as xs:=⟨h.1,λi a x e1 e2=>m a x (h.2 i a x e1 e2)⟩
theorem R2.cons {α:Type}{P:α→V→Prop}{a:α}{x:V}{as:List α}{xs:List V}(p:P a x) (h:R2 P as xs):R2 P (a::as) (x::xs):=⟨by simp[h.1],λi b y e1 e2=>by
 cases i with
 | zero=>simp at e1 e2;subst e1;subst e2;exact p
 | succ i=>exact h.2 i b y (by simpa using e1) (by simpa using e2)⟩
theorem R2.append {α:Type}{P:α→V→Prop}{as bs:List α}{xs ys:List V}(h:R2 P as xs) (k:R2 P bs ys):R2 P (as++bs) (xs++ys):=⟨by simp[h.1,k.1],λi a x e1 e2=>by
 rw[List.getElem?_append] at e1 e2
 rw[←h.1] at e2
 split at e1
 ·rename_i z;rw[if_pos z] at e2;exact h.2 i a x e1 e2
 ·rename_i z;rw[if_neg z] at e2;exact k.2 _ a x e1 e2⟩
theorem R2.take {α:Type}{P:α→V→Prop}{as:List α}{xs:List V}(h:R2 P as xs) (k:Nat):R2 P (as.take k) (xs.take k):=⟨by simp[h.1],λi a x e1 e2=>by
 rw[List.getElem?_take] at e1 e2
 split at e1
 ·rename_i z;rw[if_pos z] at e2;exact h.2 i a x e1 e2
 ·cases e1⟩
theorem R2.drop {α:Type}{P:α→V→Prop}{as:List α}{xs:List V}(h:R2 P as xs) (k:Nat):R2 P (as.drop k) (xs.drop k):=⟨by simp[h.1],λi a x e1 e2=>by
 rw[List.getElem?_drop] at e1 e2
 exact h.2 _ a x e1 e2⟩
theorem R2.get {α:Type}{P:α→V→Prop}{as:List α}{xs:List V}(h:R2 P as xs) {i:Nat}(hi:i<as.length):∃ x,xs[i]?=some x∧P (as[i]) x:=by
 have hj:i<xs.length:=by rw[←h.1];exact hi
 exact⟨xs[i],by simp,h.2 i _ _ (by simp) (by simp)⟩
def zdD (H:Hp):List Dd→List V→Prop:=R2 λd x=>zb4 H (toD d) x
theorem zdD.same {H H':Hp}{ds:List Dd}{xs:List V}(e:Same H H') (h:zdD H ds xs):zdD H' ds xs:=R2.mono h λ_ _ z=>z.sq e.sq
def zb6:Dd→Str
 | .set _ _=>"set"
 | .part _ _ _=>"part"
 | .draw _ _ _=>"draw"
 | .turn _ _=>"turn"
 | .hold _=>"hold"
 | .call _ _ _ _ _=>"call"
theorem zfP {H:Hp}{d:Dd}{x:V}(h:zb4 H (toD d) x):∃ t xs,x=.ref t∧H t=some (.tup (.str (zb6 d)::xs)):=by
 cases d <;> (obtain⟨t,xs,rfl,h1,px⟩:=za6 h;obtain⟨x0,r,rfl,e0,px⟩:=zam px;cases zbw e0;exact⟨t,r,rfl,h1⟩)
theorem zh2 {d:Dd}(h:zjX d):Deed (toD d):=by
 cases d with
 | set hd l=>exact⟨_,rfl,by simp,λc hc=>by
   simp at hc
   rcases hc with rfl | rfl | rfl
   ·exact .inr (.inl ⟨_,rfl⟩)
   ·exact .inl ⟨_,rfl⟩
   ·exact .inr (.inr (.inl ⟨l,h,rfl⟩))⟩
 | part hd l b=>exact⟨_,rfl,by simp,λc hc=>by
   simp at hc
   rcases hc with rfl | rfl | rfl | rfl
   ·exact .inr (.inl ⟨_,rfl⟩)
   ·exact .inl ⟨_,rfl⟩
   ·exact .inr (.inr (.inl ⟨l,h,rfl⟩))
   ·exact .inl ⟨_,rfl⟩⟩
 | draw hd lo hi=>exact⟨_,rfl,by simp,λc hc=>by
   simp at hc
   rcases hc with rfl | rfl | rfl | rfl
   ·exact .inr (.inl ⟨_,rfl⟩)
   ·exact .inl ⟨_,rfl⟩
   ·exact .inl ⟨_,rfl⟩
   ·exact .inl ⟨_,rfl⟩⟩
 | turn l p=>exact⟨_,rfl,by simp,λc hc=>by
   simp at hc
   rcases hc with rfl | rfl | rfl
   ·exact .inr (.inl ⟨_,rfl⟩)
   ·exact .inr (.inr (.inl ⟨l,h,rfl⟩))
   ·exact .inl ⟨_,rfl⟩⟩
 | hold l=>exact⟨_,rfl,by simp,λc hc=>by
   simp at hc
   rcases hc with rfl | rfl
   ·exact .inr (.inl ⟨_,rfl⟩)
   ·exact .inr (.inr (.inl ⟨l,h,rfl⟩))⟩
 | call m g0 g1 t0 t1=>exact⟨_,rfl,by simp,λc hc=>by
   simp at hc
   rcases hc with rfl | rfl | rfl | rfl
   ·exact .inr (.inl ⟨_,rfl⟩)
   ·exact .inl ⟨_,rfl⟩
   ·exact .inr (.inr (.inr ⟨_,_,rfl⟩))
   ·exact .inr (.inr (.inr ⟨_,_,rfl⟩))⟩
end My

namespace My
theorem ziz:zaq 6=[0,0,0,0,0,0,0,1,0]:=by decide
theorem nine {l:List Int}(h:l.length=9):∃ a b c d e f g i j,l=[a,b,c,d,e,f,g,i,j]:=by
 match l,h with
 | [a,b,c,d,e,f,g,i,j],_=>exact⟨a,b,c,d,e,f,g,i,j,rfl⟩
theorem zeS:List.replicate 9 (0:Int)=[0,0,0,0,0,0,0,0,0]:=rfl
theorem kLe (n:Int):kL n=[n,0,0,0,0,0,0,0,0]:=rfl
theorem zgF {l:List Int}{b:Int}(h:l.length=9):zbm 0 (addW (-b) l (zaq 6))=za4 l b:=by
 obtain⟨a0,a1,a2,a3,a4,a5,a6,a7,a8,rfl⟩:=nine h
 simp only[za4,zbr,ziz,zeS,List.zip_cons_cons,List.zip_nil_right,zcg,List.foldl_cons,List.foldl_nil,addW,List.zipWith_cons_cons,List.zipWith_nil_right,zbm]
 simp
theorem zei {l:List Int}{b:Int}(h:l.length=9):(zbm (1 - b) (addW 0 (za4 l b) (zaq 6))).map (λx=>-x)=greatest l b:=by
 obtain⟨a0,a1,a2,a3,a4,a5,a6,a7,a8,rfl⟩:=nine h
 simp only[greatest,za4,zbr,ziz,zeS,kLe,List.zip_cons_cons,List.zip_nil_right,zcg,List.foldl_cons,List.foldl_nil,addW,List.zipWith_cons_cons,List.zipWith_nil_right,zbm,zmc,List.map_nil]
 simp
 omega
theorem zhq {lo:Int} : zbm (-lo) (addW 0 (zaq 6) (zaq 6))=zb5 lo:=by
 simp only[zb5,zbr,ziz,zeS,kLe,List.zip_cons_cons,List.zip_nil_right,zcg,List.foldl_cons,List.foldl_nil,addW,List.zipWith_cons_cons,List.zipWith_nil_right,zbm]
 simp
theorem ziA {hi:Int} : (hi - 0)::([0,0,0,0,0,0,1,0]:List Int).map (λx=>-x)=zcx hi:=by
 simp only[zcx,zbr,ziz,zeS,kLe,List.zip_cons_cons,List.zip_nil_right,zcg,List.foldl_cons,List.foldl_nil,addW,List.zipWith_cons_cons,List.zipWith_nil_right]
 simp
theorem zgG {c:Int}{fs:List Int}(h:fs.length=8):(-c - 1)::fs.map (λx=>-x)=zcN (c::fs):=by
 obtain⟨a0,a1,a2,a3,a4,a5,a6,a7,a8,e⟩:=nine (l:=c::fs) (by simp[h])
 injection e with e1 e2
 subst e1;subst e2
 simp only[zcN,zbr,zeS,kLe,List.zip_cons_cons,List.zip_nil_right,zcg,List.foldl_cons,List.foldl_nil,addW,List.zipWith_cons_cons,List.zipWith_nil_right,zmc,List.map_nil]
 simp
 omega
end My

namespace My
open PySem L2 PyProof.Rows
abbrev Du:=List Int × List (List Int)
def duD (g:Du):D:=.tup [nums g.1,zaI g.2]
def zdk (H:Hp) (g:Du) (v:V):Prop:=∃ T ga na,v=.ref T∧H T=some (.tup [.ref ga,.ref na])∧H ga=some (.lst (g.1.map V.int))∧Ls H na g.2
theorem zdk.same {H H':Hp}{g:Du}{v:V}(e:Same H H') (h:zdk H g v):zdk H' g v:=by
 obtain⟨T,ga,na,rfl,h1,h2,h3⟩:=h
 exact⟨T,ga,na,rfl,e _ _ h1,e _ _ h2,h3.same e⟩
def zaZ (H:Hp) (a:Addr) (gs:List Du):Prop:=∃ vs,H a=some (.lst vs)∧R2 (zdk H) gs vs
theorem zaZ.same {H H':Hp}{a:Addr}{gs:List Du}(e:Same H H') (h:zaZ H a gs):zaZ H' a gs:=by
 obtain⟨vs,h1,h2⟩:=h
 exact⟨vs,e _ _ h1,h2.mono λ_ _ z=>z.same e⟩
theorem zaZ.nil {H:Hp}{a:Addr}(h:H a=some (.lst [])):zaZ H a []:=⟨[],h,R2.nil⟩
theorem zaZ.cat {H:Hp}{a b p:Addr}{g1 g2:List Du}{xs ys:List V}(h:zaZ H a g1) (k:zaZ H b g2) (ha:H a=some (.lst xs)) (hb:H b=some (.lst ys)) (hp:H p=none):zaZ (upd H p (.lst (xs++ys))) p (g1++g2):=by
 obtain⟨vs,h1,h2⟩:=h
 obtain⟨us,k1,k2⟩:=k
 rw[h1] at ha;cases ha
 rw[k1] at hb;cases hb
 exact⟨_,zac,(h2.mono λ_ _ z=>z.same (zae hp _)).append (k2.mono λ_ _ z=>z.same (zae hp _))⟩
theorem Ls.nil {H:Hp}{a:Addr}(h:H a=some (.lst [])):Ls H a []:=⟨[],h,rfl,λi a l e _=>by simp at e⟩
theorem Ls.ones {H:Hp}{p a:Addr}{l:List Int}(hp:H p=some (.lst [.ref a])) (h:H a=some (.lst (l.map V.int))):Ls H p [l]:=⟨[a],hp,rfl,zdd h⟩
theorem Ls.twos {H:Hp}{p a b:Addr}{l m:List Int}(hp:H p=some (.lst [.ref a,.ref b])) (h:H a=some (.lst (l.map V.int))) (k:H b=some (.lst (m.map V.int))):Ls H p [l,m]:=⟨[a,b],hp,rfl,zb1 h k⟩
def zcE (H:Hp) (Da:Addr) (g:Du) (v:V):Prop:=∃ T ga na,v=.ref T∧H T=some (.tup [.ref ga,.ref na])∧H ga=some (.lst (g.1.map V.int))∧Ls H na g.2∧na≠Da∧g.1.length=9∧∀ l∈g.2,l.length=9
theorem zcE.same {H H':Hp}{Da:Addr}{g:Du}{v:V}(e:Same H H') (h:zcE H Da g v):zcE H' Da g v:=by
 obtain⟨T,ga,na,rfl,h1,h2,h3,h4⟩:=h
 exact⟨T,ga,na,rfl,e _ _ h1,e _ _ h2,h3.same e,h4⟩
theorem zcE.put {H:Hp}{Da:Addr}{g:Du}{v:V}{ys zs:List V}(hD:H Da=some (.lst ys)) (hr:∀ y∈ys,∃ T,y=V.ref T) (h:zcE H Da g v):zcE (upd H Da (.lst zs)) Da g v:=by
 obtain⟨T,ga,na,rfl,hT,hga,hLs,nna,h9,h99⟩:=h
 have no:∀ l:List Int,l.length=9→H Da≠some (.lst (l.map V.int)):=λl hl e=>by
  rw[hD] at e
  have e:ys=l.map V.int:=by injection e with e;injection e
  cases l with
  | nil=>simp at hl
  | cons x l=>
   obtain⟨T,hT⟩:=hr (.int x) (by rw[e];simp)
   cases hT
 exact⟨T,ga,na,rfl,by rw[zaw (λz=>by rw[z,hD] at hT;cases hT)];exact hT,by rw[zaw (λz=>no _ h9 (by rw[←z];exact hga))];exact hga,hLs.upd nna.symm λl hl=>no l (h99 l hl),nna,h9,h99⟩
theorem zdP {J:It}{H1:Hp}{n:Nat}{P:Nat→V→Hp→Prop}{g:TG}{te:TE}{σ0:L2.St}{Q:VK}(wk:Goes J H1 n P) (gs:List Du) (hn:gs.length=n) (hz:n≤sizeLine) (h9:∀ g∈gs,g.1.length=9∧∀ l∈g.2,l.length=9)
  (step:∀ i x d H' (R:VK),i<n→gs[i]?=some d→Same H1 H'→P i x H'→(∀ T ga na H3,Same H' H3→(H1 na≠none∨H' na=none)→H3 T=some (.tup [.ref ga,.ref na])→H3 ga=some (.lst (d.1.map V.int))→Ls H3 na d.2→R (.ref T) H3)→g x σ0 H' λσ2 H2=>te σ2 H2 R)
  (fin:∀ a H',Same H1 H'→H1 a=none→zaZ H' a gs→Q (.ref a) H'):zgs J g zkw te σ0 H1 Q:=by
 intro Da hD
 refine⟨λi m ys H=>m=n - i∧i≤n∧Same H1 H∧H Da=some (.lst ys)∧R2 (zcE H Da) (gs.take i) ys,⟨n,rfl,Nat.zero_le _,zae hD _,zac,by rw[List.take_zero];exact R2.nil⟩,?_⟩
 rintro i m ys H ⟨rfl,hi,hs,hH,hL⟩
 refine⟨hH,?_⟩
 have hl:=hL.1
 rw[List.length_take] at hl
 by_cases hlt:i<n
 ·refine .inr ⟨wk.go i H hlt hs,by omega,λys' H'=>(n - (i+1)<n - i∧i+1≤n∧Same H1 H'∧H' Da=some (.lst ys')∧R2 (zcE H' Da) (gs.take (i+1)) ys'),λys' H' ⟨q1,q2,q3,q4,q5⟩=>⟨n - (i+1),q1,rfl,q2,q3,q4,q5⟩,λx H' hy=>?_⟩
  obtain⟨s1,hp⟩:=wk.yld i H x H' hlt hs hy
  have hi':i<gs.length:=by omega
  refine step i x gs[i] H' _ hlt (by simp) (hs.trans s1) hp λT ga na H3 s3 hna hT hga hLs=>?_
  have hD3:H3 Da=some (.lst ys):=s3 _ _ (s1 _ _ hH)
  have nna:na≠Da:=by
   rintro rfl
   rcases hna with z | z
   ·exact z hD
   ·rw[s1 _ _ hH] at z;cases z
  have h99:=h9 gs[i] (List.getElem_mem hi')
  have hrefs:∀ y∈ys,∃ T,y=V.ref T:=λy hy=>by
   obtain⟨j,hj,rfl⟩:=List.getElem_of_mem hy
   obtain⟨T,_,_,e,_⟩:=hL.2 j ((gs.take i)[j]'(by rw[hL.1];exact hj)) ys[j] (List.getElem?_eq_getElem _) (by simp)
   exact⟨T,e⟩
  have hL3:R2 (zcE H3 Da) (gs.take (i+1)) (ys++[.ref T]):=by
   rw[List.take_add_one,List.getElem?_eq_getElem hi']
   exact (hL.mono λ_ _ z=>z.same (s1.trans s3)).append (R2.cons ⟨T,ga,na,rfl,hT,hga,hLs,nna,h99.1,h99.2⟩ R2.nil)
  exact⟨hD3,by omega,hlt,(hs.trans (s1.trans s3)).put hD,zac,hL3.mono λ_ _ z=>z.put hD3 hrefs⟩
 ·have e:i=n:=by omega
  subst e
  rw[List.take_of_length_le (by omega)] at hL
  refine .inl ⟨wk.stop H hs,fin _ _ hs hD ⟨ys,hH,hL.mono λg v z=>?_⟩⟩
  obtain⟨T,ga,na,rfl,h1,h2,h3,_⟩:=z
  exact⟨T,ga,na,rfl,h1,h2,h3⟩
theorem znQ {a1 a2 a3 a4 a5 a6 u:TS}{D:Ends}{σ:L2.St}{H:Hp}(M:L2.St→Hp→Prop) (h:∀ NX:L2.St→Hp→Prop,(∀ σ H,M σ H→NX σ H)→tSeq a1 (tSeq a2 (tSeq a3 (tSeq a4 (tSeq a5 (tSeq a6 zi3))))) {D with nx:=NX} σ H) (tail:∀ σ H,M σ H→u D σ H) :
  tSeq a1 (tSeq a2 (tSeq a3 (tSeq a4 (tSeq a5 (tSeq a6 u))))) D σ H:=h _ tail
theorem zfr {c:TT}{t e u:TS}{D:Ends}{σ:L2.St}{H:Hp}(h:∀ Q:Bool→Hp→Prop,Q true H→c σ H Q) (k:tSeq t u D σ H):tSeq (tIfS c t e) u D σ H:=h _ (iteT k)
def znR (H:Hp) (ls:List (List Int)) (x:V):Prop:=∃ b,x=.ref b∧Ls H b ls
def zdl (H:Hp) (v:V) (needs leaves:List (List Int)) (deeds:List Dd) (notes:List (List (List Int))):Prop:=∃ (pa y1 y2 a3 a4:Addr) (dvs nvs:List V),v=.ref pa∧H pa=some (.lst [.ref y1,.ref y2,.ref a3,.ref a4])∧Ls H y1 needs∧Ls H y2 leaves∧H a3=some (.lst dvs)∧H a4=some (.lst nvs)∧zdD H deeds dvs∧R2 (znR H) notes nvs
theorem zdl.same {H H':Hp}{v:V}{needs leaves:List (List Int)}{deeds:List Dd}{notes:List (List (List Int))}(e:Same H H') (h:zdl H v needs leaves deeds notes):zdl H' v needs leaves deeds notes:=by
 obtain⟨pa,y1,y2,a3,a4,dvs,nvs,rfl,h1,h2,h3,h4,h5,h6,h7⟩:=h
 exact⟨pa,y1,y2,a3,a4,dvs,nvs,rfl,e _ _ h1,h2.same e,h3.same e,e _ _ h4,e _ _ h5,h6.same e,h7.mono λ_ _ ⟨b,e1,e2⟩=>⟨b,e1,e2.same e⟩⟩
theorem zgH {l:List Int}(h:l.length=9):zaG l ((List.range 8).map λ(i:Nat)=>zaq (0+(i:Int)))=l:=by
 obtain⟨a0,a1,a2,a3,a4,a5,a6,a7,a8,rfl⟩:=nine h
 unfold zaG zbr zcg
 simp[addW,zbm,zaq,List.range_succ,List.replicate_succ]
theorem zfQ {c:TT}{t u:TS}{D:Ends}{σ:L2.St}{H:Hp}(h:∀ Q:Bool→Hp→Prop,(∀ H',Same H H'→Q false H')→c σ H Q) (k:∀ H',Same H H'→u D σ H'):tSeq (tIfS c t zi3) u D σ H:=h _ λH' s=>iteF (k H' s)
theorem RepF.ls {H:Hp}{ls:List (List Int)}{v:V}{fp:List Addr}(h:RepF H (.lst (ls.map nums)) v fp):∃ ka,v=.ref ka∧Ls H ka ls:=by
 unfold RepF at h
 obtain⟨a,xs,r,rfl,rfl,h1,h2⟩:=h
 obtain⟨rfl,e2,e3⟩:=zaj.lines h2
 refine⟨a,rfl,r,h1,e2,λi b l q1 q2=>?_⟩
 obtain⟨l',z1,z2⟩:=e3 i b q1
 rw[q2] at z1;cases z1
 exact z2
theorem RepF.duty {H:Hp}{g:Du}{v:V}{f:List Addr}(h:RepF H (duD g) v f):∃ (T ga na:Addr) (as:List Addr),v=.ref T∧H T=some (.tup [.ref ga,.ref na])∧H ga=some (.lst (g.1.map V.int))∧H na=some (.lst (as.map V.ref))∧as.length=g.2.length∧(∀ (i:Nat) a l,as[i]?=some a→g.2[i]?=some l→H a=some (.lst (l.map V.int)))∧ga∈f∧na∈f∧∀ b∈as,b∈f:=by
 unfold duD RepF at h
 obtain⟨T,xs,rfl,hT,hx⟩:=h
 unfold zaj at hx
 obtain⟨x1,r1,f1,g1,rfl,rfl,h1,hx⟩:=hx
 unfold zaj at hx
 obtain⟨x2,r2,f2,g2,rfl,rfl,h2,hx⟩:=hx
 unfold zaj at hx
 obtain⟨rfl,rfl⟩:=hx
 unfold RepF at h1
 obtain⟨ga,ys,r3,rfl,rfl,hga,hy⟩:=h1
 obtain⟨rfl,rfl⟩:=zaj.ints_eq hy
 unfold zaI RepF at h2
 obtain⟨na,zs,as,rfl,rfl,hna,hz⟩:=h2
 obtain⟨rfl,e2,e3⟩:=zaj.lines hz
 refine⟨T,ga,na,as,rfl,hT,hga,hna,e2,λi a l q1 q2=>?_,by simp,by simp,λb hb=>by simp[hb]⟩
 obtain⟨l',z1,z2⟩:=e3 i a q1
 rw[q2] at z1;cases z1
 exact z2
theorem RepF.dutyAt {H:Hp}{g:Du}{v:V}{f:List Addr}(h:RepF H (duD g) v f):zdk H g v:=by
 obtain⟨T,ga,na,as,rfl,h1,h2,h3,h4,h5,_⟩:=RepF.duty h
 exact⟨T,ga,na,rfl,h1,h2,as,h3,h4,h5⟩
theorem zaj.duties {H:Hp}{gs:List Du}{xs:List V}{fp:List Addr}(h:zaj H (gs.map duD) xs fp):R2 (zdk H) gs xs:=⟨by have:=h.length;simpa using this,λi g x e1 e2=>by
 obtain⟨f,hf⟩:=zaj.item h i (duD g) x (by rw[zgm,e1];rfl) e2
 exact RepF.dutyAt hf⟩
theorem zgI {xs:List V}{k:Int}(h0:0≤k):cutV xs (some k) none=xs.drop k.toNat:=by
 have e:k=(k.toNat:Int):=by omega
 rw[e]
 unfold cutV
 rw[HT.sIx_none,HT.sIx_nat,Int.toNat_natCast]
 by_cases z:k.toNat≤xs.length
 ·rw[Nat.min_eq_left z,List.take_of_length_le (by rw[List.length_drop];exact Nat.le_refl _)]
 ·rw[Nat.min_eq_right (by omega),Nat.sub_self,List.take_zero,List.drop_eq_nil_of_le (by omega)]
theorem zgJ {xs:List V}{k:Int}(h0:0≤k):cutV xs none (some k)=xs.take k.toNat:=by
 have e:k=(k.toNat:Int):=by omega
 rw[e]
 unfold cutV
 rw[HT.sIx_none,HT.sIx_nat,List.drop_zero,Nat.sub_zero,Int.toNat_natCast]
 by_cases z:k.toNat≤xs.length
 ·rw[Nat.min_eq_left z]
 ·rw[Nat.min_eq_right (by omega),List.take_of_length_le (Nat.le_refl _),List.take_of_length_le (by omega)]
theorem zmj {xs:List V}{k:Int}{x:V}(h0:0≤k) (h:xs[k.toNat]?=some x):cutV xs (some k) (some (k+1))=[x]:=by
 have hl:=(zge.mp h).1
 have e:k=(k.toNat:Int):=by omega
 have e1:k+1=((k.toNat+1:Nat):Int):=by omega
 rw[e1,e]
 unfold cutV
 rw[HT.sIx_nat,HT.sIx_nat,Int.toNat_natCast,Nat.min_eq_left (by omega),Nat.min_eq_left (by omega),show k.toNat+1 - k.toNat=1 by omega,List.drop_eq_getElem_cons hl]
 rw[List.getElem?_eq_getElem hl] at h
 cases h
 rfl
theorem zmk {lo hi:Option Int} : cutV [] lo hi=[]:=by unfold cutV;simp
def NoD (H H':Hp):Prop:=∀ b o,H b=some o→(∀ kvs,o≠HO.dK kvs)→H' b=some o
theorem _root_.L2.Same.nod {H H':Hp}(e:Same H H'):NoD H H':=λb o h _=>e b o h
theorem NoD.trans {H H1 H2:Hp}(a:NoD H H1) (b:NoD H1 H2):NoD H H2:=λc o h n=>b c o (a c o h n) n
theorem zfR {H:Hp}{p:Addr}{o:HO}{kvs:List (Key × V)}(h:H p=some (.dK kvs)):NoD H (upd H p o):=λb u e n=>by
 rw[zaw (λz=>by rw[z,h] at e;exact n kvs (Option.some.inj e).symm)]
 exact e
theorem NoD.sq {H H':Hp}(e:NoD H H'):Sq H H':=λb o h q=>e b o h λkvs z=>by rw[z] at q;cases q
theorem _root_.L2.Ls.nod {H H':Hp}{ka:Addr}{ls:List (List Int)}(e:NoD H H') (h:Ls H ka ls):Ls H' ka ls:=by
 obtain⟨as,h1,h2,h3⟩:=h
 exact⟨as,e _ _ h1 (λ_ z=>by cases z),h2,λi a l e1 e2=>e _ _ (h3 i a l e1 e2) (λ_ z=>by cases z)⟩
theorem zjZ {κ:Type} [DecidableEq κ] (kvs:List (κ × V)) (k:κ) (v:V):(putK kvs k v).map (·.1)=if k∈kvs.map (·.1) then kvs.map (·.1) else kvs.map (·.1)++[k]:=by
 cases h:valV kvs k with
 | some y=>
  rw[if_pos (zlS h)]
  unfold putK
  rw[zcj,h]
  rw[if_pos (show (some y).isSome=true from rfl),List.map_map]
  refine List.map_congr_left λp _=>?_
  show (if p.1=k then (p.1,v) else p).1=p.1
  split <;> rfl
 | none=>rw[if_neg (zkv h),zkr v h,List.map_append];rfl
theorem zj0 {ks:List Int}{m:Int} : (Sum.inl m:Key)∈ks.map (Sum.inl:Int→Key)↔m∈ks:=by
 constructor
 ·intro h
  obtain⟨x,hx,e⟩:=zmm.mp h
  injection e with e
  rw[←e];exact hx
 ·intro h;exact List.mem_map_of_mem h
theorem ziB {ks:List Int}{m:Int} : (ks.map (Sum.inl:Int→Key)).filter (λk=>decide (k≠Sum.inl m))=(ks.filter λk=>decide (k≠m)).map Sum.inl:=by
 rw[List.filter_map]
 congr 1
 refine List.filter_congr λx _=>?_
 show decide ((Sum.inl x:Key)≠Sum.inl m)=decide (x≠m)
 refine decide_eq_decide.mpr ⟨λh z=>h (by rw[z]),λh z=>h (by injection z)⟩
theorem ziC {kvs:List (Key × V)}{k:Key} : (zb0 kvs k).map (·.1)=(kvs.map (·.1)).filter (λj=>decide (j≠k)):=by
 unfold zb0
 rw[List.filter_map]
 rfl
theorem ziD {ks:List Int}{m:Int}(nd:ks.Nodup) (h:m∈ks):((ks.filter λk=>decide (k≠m))++[m]).Perm ks:=by
 refine (List.perm_ext_iff_of_nodup (zhg (nd.filter _) (by simp)) nd).mpr λa=>?_
 simp only[zma,List.mem_filter,zms,decide_eq_true_eq]
 constructor
 ·rintro (⟨h1,_⟩ | rfl)
  ·exact h1
  ·exact h
 ·intro ha
  by_cases z:a=m
  ·exact .inr z
  ·exact .inl ⟨ha,z⟩
theorem zdl.of {H H0:Hp}{v:V}{needs leaves:List (List Int)}{deeds:List Dd}{notes:List (List (List Int))}(h9:∀ d∈deeds,zjX d) (n:New H H0 (.lst [zaI needs,zaI leaves,.lst (deeds.map toD),.lst (notes.map zaI)]) v):zdl H0 v needs leaves deeds notes:=by
 obtain⟨pa,pvs,fp,rfl,pa0,pa1,pr,_,_,pf⟩:=New.lst_out n
 obtain⟨x1,x2,x3,x4,f1,f2,f3,f4,rfl,g1,g2,g3,g4⟩:=zlk pr
 obtain⟨y1,rfl,hy1⟩:=RepF.ls g1
 obtain⟨y2,rfl,hy2⟩:=RepF.ls g2
 obtain⟨b3,dvs,r3,rfl,h3,z3⟩:=RepF.lst_out g3
 obtain⟨b4,nvs,r4,rfl,h4,z4⟩:=RepF.lst_out g4
 refine⟨pa,y1,y2,b3,b4,dvs,nvs,rfl,pa1,hy1,hy2,h3,h4,⟨by simpa using z3.length,λi d x e1 e2=>?_⟩,⟨by simpa using z4.length,λi ls x e1 e2=>?_⟩⟩
 ·obtain⟨f,hf⟩:=zaj.item z3 i (toD d) x (by rw[zgm,e1];rfl) e2
  exact zjL (zh2 (h9 d (zmg e1))) hf
 ·obtain⟨f,hf⟩:=zaj.item z4 i (zaI ls) x (by rw[zgm,e1];rfl) e2
  exact RepF.ls hf
def KVs (P:Int→V→Prop) (kvs:List (Key × V)) (ks:List Int):Prop:=kvs.map (·.1)=ks.map Sum.inl∧ks.Nodup∧∀ m∈ks,∃ v,valV kvs (.inl m)=some v∧P m v
theorem KVs.nil {P:Int→V→Prop} : KVs P [] []:=⟨rfl,List.nodup_nil,λm hm=>by simp at hm⟩
theorem KVs.mono {P P':Int→V→Prop}{kvs:List (Key × V)}{ks:List Int}(h:KVs P kvs ks) (m:∀ k v,P k v→P' k v):KVs P' kvs ks:=⟨h.1,h.2.1,λk hk=>by
 obtain⟨v,h1,h2⟩:=h.2.2 k hk
 exact⟨v,h1,m k v h2⟩⟩
theorem KVs.len {P:Int→V→Prop}{kvs:List (Key × V)}{ks:List Int}(h:KVs P kvs ks):kvs.length=ks.length:=by
 have:=congrArg List.length h.1
 simpa using this
theorem KVs.put {P:Int→V→Prop}{kvs:List (Key × V)}{ks:List Int}{m:Int}{v:V}(h:KVs P kvs ks) (hv:P m v):KVs P (putK kvs (.inl m) v) (if m∈ks then ks else ks++[m]):=by
 refine⟨?_,?_,λk hk=>?_⟩
 ·rw[zjZ,h.1]
  by_cases z:m∈ks
  ·rw[if_pos (zj0.mpr z),if_pos z]
  ·rw[if_neg (λw=>z (zj0.mp w)),if_neg z,List.map_append];rfl
 ·by_cases z:m∈ks
  ·rw[if_pos z];exact h.2.1
  ·rw[if_neg z];exact zhg h.2.1 z
 ·rw[zdH]
  by_cases e:k=m
  ·subst e;exact⟨v,by rw[if_pos rfl],hv⟩
  ·rw[if_neg (λw=>e (by injection w))]
   refine h.2.2 k ?_
   by_cases z:m∈ks
   ·rw[if_pos z] at hk;exact hk
   ·rw[if_neg z] at hk
    rcases zma.mp hk with w | w
    ·exact w
    ·exact absurd (zms.mp w) e
theorem KVs.drop {P:Int→V→Prop}{kvs:List (Key × V)}{ks:List Int}{m:Int}(h:KVs P kvs ks):KVs P (zb0 kvs (.inl m)) (ks.filter λk=>decide (k≠m)):=by
 refine⟨by rw[ziC,h.1];exact ziB,h.2.1.filter _,λk hk=>?_⟩
 obtain⟨h1,h2⟩:=List.mem_filter.mp hk
 have h2:k≠m:=of_decide_eq_true h2
 rw[zeQ,if_neg (λw=>h2 (by injection w))]
 exact h.2.2 k h1
theorem RepF.oath {H:Hp}{x y:List (List Int)}{v:V}{f:List Addr}(h:RepF H (.tup [zaI x,zaI y]) v f):∃ T a b,v=.ref T∧H T=some (.tup [.ref a,.ref b])∧Ls H a x∧Ls H b y:=by
 unfold RepF at h
 obtain⟨T,xs,rfl,hT,hx⟩:=h
 unfold zaj at hx
 obtain⟨x1,r1,f1,g1,rfl,rfl,h1,hx⟩:=hx
 unfold zaj at hx
 obtain⟨x2,r2,f2,g2,rfl,rfl,h2,hx⟩:=hx
 unfold zaj at hx
 obtain⟨rfl,rfl⟩:=hx
 obtain⟨a,rfl,ha⟩:=RepF.ls h1
 obtain⟨b,rfl,hb⟩:=RepF.ls h2
 exact⟨T,a,b,rfl,hT,ha,hb⟩
theorem zml {leaves:List (List Int)}{notes:List (List (List Int))}(h1:leaves.length≤2) (h2:∀ ls∈notes,ls.length≤2) (place:Int):(dueL leaves notes place).length≤2:=by
 unfold dueL
 split
 ·rw[zlm];exact h1
 ·rw[List.getD_eq_getElem?_getD]
  cases e:notes[place.toNat]? with
  | none=>simp
  | some ls=>exact h2 ls (zmg e)
theorem zmn (c:Int):1≤byOf c∧byOf c≤1000:=by
 have h1:=zbl (c:=c) (k:=5) (m:=1000) (by decide)
 have h2:=zdM (c:=c) (k:=5) (m:=1000) (by decide)
 unfold byOf
 split
 ·omega
 split
 ·omega
 split <;> omega
def zaC (ch:Nat→Option (List Int)):List (List Int):=(List.range 8).map λ(i:Nat)=>(ch i).getD (zaq (0+(i:Int)))
def ch1 (k:Int) (l:List Int) (i:Nat):Option (List Int):=if k=0+(i:Int) then some l else none
def ch2 (k0:Int) (l0:List Int) (k1:Int) (l1:List Int) (i:Nat):Option (List Int):=if k1=0+(i:Int) then some l1 else if k0=0+(i:Int) then some l0 else none
def ch4 (i:Nat):Option (List Int):=if i=0 then some (zaq 4) else if i=1 then some (zaq 5) else if i=2 then some (kL 0) else if i=3 then some (kL 0) else none
def zcP (goal:List Int) (hyps:List (List Int)):D:=.tup [nums goal,zaI hyps]
def zgK (needs leaves:List (List Int)) (notes:List (List (List Int))):List D:=((dueL leaves notes 0).map λl=>zaG l (zaC ch4)).map λg=>zcP g needs
abbrev Oath:=Int→List (List Int) × List (List Int)
def zdQ (N A:List (List Int)) (T:Int→List (List Int)) (oath:Oath):Dd→List D
 | .set h l=>(A.map λx=>zaG x (zaC (ch1 h l))).map λg=>zcP g N
 | .part h l b=>(A.map λx=>zaG x (zaC (ch1 h (zaq 6)))).map λg=>zcP g (N++[za4 l b,greatest l b])
 | .draw h lo hi=>(A.map λx=>zaG x (zaC (ch1 h (zaq 6)))).map λg=>zcP g (N++[zb5 lo,zcx hi])
 | .turn l p=>((T p).map λg=>zcP g (N++[l]))++A.map λg=>zcP g (N++[zcN l])
 | .hold l=>[zcP l N]++A.map λg=>zcP g (N++[l])
 | .call m g0 g1 t0 t1=>(((oath m).1.map λx=>zaG x (zaC (ch2 4 (zaq g0) 5 (zaq g1)))).map λg=>zcP g N)++(A.map λx=>zaG x (zaC (ch2 t0 (zaq 6) t1 (zaq 7)))).map λg=>zcP g (N++(oath m).2.map λx=>zaG x (zaC (ch2 4 (zaq g0) 5 (zaq g1))))
def za5 (leaves:List (List Int)) (notes:List (List (List Int))) (oath:Oath):List Dd→Nat→List D
 | [],_=>[]
 | d::ds,p=>zdQ (dueL leaves notes p) (dueL leaves notes (p+1)) (dueL leaves notes) oath d++za5 leaves notes oath ds (p+1)
theorem zdE (leaves:List (List Int)) (notes:List (List (List Int))) (oath:Oath):∀ (xs ys:List Dd) (p:Nat),za5 leaves notes oath (xs++ys) p=za5 leaves notes oath xs p++za5 leaves notes oath ys (p+xs.length)
 | [],ys,p=>rfl
 | x::xs,ys,p=>by
  show zdQ _ _ _ _ x++za5 leaves notes oath (xs++ys) (p+1)=(zdQ _ _ _ _ x++za5 leaves notes oath xs (p+1))++_
  rw[zdE leaves notes oath xs ys (p+1),List.append_assoc,List.length_cons,show p+1+xs.length=p+(xs.length+1) by omega]
def zeT (needs leaves:List (List Int)) (deeds:List Dd) (notes:List (List (List Int))) (oath:Oath):List D:=zgK needs leaves notes++za5 leaves notes oath deeds 0
def zbG (N A:List (List Int)) (T:Int→List (List Int)) (oath:Oath):Dd→List Du
 | .set h l=>A.map λx=>(zaG x (zaC (ch1 h l)),N)
 | .part h l b=>A.map λx=>(zaG x (zaC (ch1 h (zaq 6))),N++[za4 l b,greatest l b])
 | .draw h lo hi=>A.map λx=>(zaG x (zaC (ch1 h (zaq 6))),N++[zb5 lo,zcx hi])
 | .turn l p=>((T p).map λg=>(g,N++[l]))++A.map λg=>(g,N++[zcN l])
 | .hold l=>[(l,N)]++A.map λg=>(g,N++[l])
 | .call m g0 g1 t0 t1=>((oath m).1.map λx=>(zaG x (zaC (ch2 4 (zaq g0) 5 (zaq g1))),N))++A.map λx=>(zaG x (zaC (ch2 t0 (zaq 6) t1 (zaq 7))),N++(oath m).2.map λx=>zaG x (zaC (ch2 4 (zaq g0) 5 (zaq g1))))
theorem zj1 (N A:List (List Int)) (T:Int→List (List Int)) (oath:Oath) (d:Dd):(zbG N A T oath d).map duD=zdQ N A T oath d:=by
 cases d <;> simp only[zbG,zdQ,List.map_append,List.map_map,zmc,List.map_nil] <;> rfl
def zdR (needs leaves:List (List Int)) (notes:List (List (List Int))):List Du:=(dueL leaves notes 0).map λl=>(zaG l (zaC ch4),needs)
def zb3 (leaves:List (List Int)) (notes:List (List (List Int))) (oath:Oath):List Dd→Nat→List Du
 | [],_=>[]
 | d::ds,p=>zbG (dueL leaves notes p) (dueL leaves notes (p+1)) (dueL leaves notes) oath d++zb3 leaves notes oath ds (p+1)
theorem zeU (leaves:List (List Int)) (notes:List (List (List Int))) (oath:Oath):∀ (xs ys:List Dd) (p:Nat),zb3 leaves notes oath (xs++ys) p=zb3 leaves notes oath xs p++zb3 leaves notes oath ys (p+xs.length)
 | [],ys,p=>rfl
 | x::xs,ys,p=>by
  show zbG _ _ _ _ x++zb3 leaves notes oath (xs++ys) (p+1)=(zbG _ _ _ _ x++zb3 leaves notes oath xs (p+1))++_
  rw[zeU leaves notes oath xs ys (p+1),List.append_assoc,List.length_cons,show p+1+xs.length=p+(xs.length+1) by omega]
theorem zgL (leaves:List (List Int)) (notes:List (List (List Int))) (oath:Oath):∀ (ds:List Dd) (p:Nat),(zb3 leaves notes oath ds p).map duD=za5 leaves notes oath ds p
 | [],p=>rfl
 | d::ds,p=>by
  show (zbG _ _ _ _ d++zb3 leaves notes oath ds (p+1)).map duD=zdQ _ _ _ _ d++za5 leaves notes oath ds (p+1)
  rw[List.map_append,zj1,zgL leaves notes oath ds (p+1)]
def zcc (needs leaves:List (List Int)) (deeds:List Dd) (notes:List (List (List Int))) (oath:Oath):List Du:=zdR needs leaves notes++zb3 leaves notes oath deeds 0
theorem zfs (needs leaves:List (List Int)) (deeds:List Dd) (notes:List (List (List Int))) (oath:Oath):(zcc needs leaves deeds notes oath).map duD=zeT needs leaves deeds notes oath:=by
 unfold zcc zeT
 rw[List.map_append,zgL]
 congr 1
 unfold zdR zgK
 rw[List.map_map,List.map_map]
 rfl
def Sm (l:List Int):Prop:=∀ n∈l,-(2 ^ 64)<n∧n<2 ^ 64
def zbD:Dd→Option Int
 | .call m _ _ _ _=>some m
 | _=>none
def za7 (deeds:List Dd):List Int:=deeds.filterMap zbD
def dOk (n:Nat):Dd→Prop
 | .set _ l=>l.length=9∧Sm l
 | .part _ l b=>l.length=9∧(-1000000<b∧b<1000000)
 | .turn l p=>l.length=9∧0≤p∧p≤(n:Int)
 | .hold l=>l.length=9
 | _=>True
theorem ziE {deeds:List Dd}{m:Int}(h:m∈za7 deeds):∃ d∈deeds,zbD d=some m:=by
 unfold za7 at h
 exact List.mem_filterMap.mp h
theorem zh3 {deeds:List Dd}{m g0 g1 t0 t1:Int}(h:Dd.call m g0 g1 t0 t1∈deeds):m∈za7 deeds:=by
 unfold za7
 exact List.mem_filterMap.mpr ⟨_,h,rfl⟩
end My

namespace My
open PySem L2 PyProof.Rows
theorem zeros8e:List.replicate 8 (0:Int)=[0,0,0,0,0,0,0,0]:=rfl
section
variable {H H1 : Hp} {la t g u : Addr} {l : List Int}
end
end My

namespace My
open PySem L2 PyProof.Rows
def flds (v1 v2 v3 v4:V):List (Str × V):=putF "notes" v4 (putF "deeds" v3 (putF "leaves" v2 (putF "needs" v1 [])))
theorem zh4 (v1 v2 v3 v4:V):(flds v1 v2 v3 v4).lookup ("needs" : Str)=some v1:=by
 unfold flds
 rw[za2,if_neg (by decide +kernel),za2,if_neg (by decide +kernel),za2,if_neg (by decide +kernel),za2,if_pos rfl]
theorem zgM (v1 v2 v3 v4:V):(flds v1 v2 v3 v4).lookup ("leaves" : Str)=some v2:=by
 unfold flds
 rw[za2,if_neg (by decide +kernel),za2,if_neg (by decide +kernel),za2,if_pos rfl]
theorem zdS (v1 v2 v3 v4:V):(flds v1 v2 v3 v4).lookup ("deeds" : Str)=some v3:=by
 unfold flds
 rw[za2,if_neg (by decide +kernel),za2,if_pos rfl]
theorem zh5 (v1 v2 v3 v4:V):(flds v1 v2 v3 v4).lookup ("notes" : Str)=some v4:=by
 unfold flds
 rw[za2,if_pos rfl]
theorem zde {f:Str}{v:V}{fs:List (Str × V)}{n:Nat}(h:fs.length<n):(putF f v fs).length<n+1:=Nat.lt_of_le_of_lt (zdx f v fs) (by omega)
def zj2 (needs leaves:List (List Int)) (deeds:List D) (notes:List (List (List Int))):List D:=[zaI needs,zaI leaves,.lst deeds,.lst (notes.map zaI)]
def zbM (K:Fg) (cC:Addr) (H:Hp) (p:Addr) (needs leaves:List (List Int)) (deeds:List D) (notes:List (List (List Int))):Prop:=
 ∃ dx w1 w2 w3 w4,H p=some (.ins cC dx (flds w1 w2 w3 w4))∧Rep K H (zaI needs) w1∧Rep K H (zaI leaves) w2∧Rep K H (.lst deeds) w3∧Rep K H (.lst (notes.map zaI)) w4
theorem reps4 {K:Fg}{H:Hp}{d1 d2 d3 d4:D}{w1 w2 w3 w4:V}(h:Reps K H [d1,d2,d3,d4] [w1,w2,w3,w4]):Rep K H d1 w1∧Rep K H d2 w2∧Rep K H d3 w3∧Rep K H d4 w4:=by
 unfold Reps at h
 obtain⟨_,_,e,h1,h⟩:=h
 cases e
 unfold Reps at h
 obtain⟨_,_,e,h2,h⟩:=h
 cases e
 unfold Reps at h
 obtain⟨_,_,e,h3,h⟩:=h
 cases e
 unfold Reps at h
 obtain⟨_,_,e,h4,h⟩:=h
 cases e
 exact⟨h1,h2,h3,h4⟩
theorem zbM.of {K:Fg}{cC:Addr}{H0 H:Hp}{p dx:Addr}{w1 w2 w3 w4:V}{needs leaves:List (List Int)}{deeds:List D}{notes:List (List (List Int))}(h:H p=some (.ins cC dx (flds w1 w2 w3 w4))) (n:News H0 H (zj2 needs leaves deeds notes) [w1,w2,w3,w4]):zbM K cC H p needs leaves deeds notes:=by
 obtain⟨h1,h2,h3,h4⟩:=reps4 n.reps
 exact⟨dx,w1,w2,w3,w4,h,h1,h2,h3,h4⟩
theorem zbM.same {K:Fg}{cC:Addr}{H H':Hp}{p:Addr}{needs leaves:List (List Int)}{deeds:List D}{notes:List (List (List Int))}(e:Same H H') (h:zbM K cC H p needs leaves deeds notes):zbM K cC H' p needs leaves deeds notes:=by
 obtain⟨dx,w1,w2,w3,w4,h0,h1,h2,h3,h4⟩:=h
 exact⟨dx,w1,w2,w3,w4,e _ _ h0,Rep.same e _ h1,Rep.same e _ h2,Rep.same e _ h3,Rep.same e _ h4⟩
def zdm (K:Fg) (cC:Addr) (H:Hp) (p:Addr) (needs leaves:List (List Int)) (deeds:List Dd) (notes:List (List (List Int))):Prop:=
 zbM K cC H p needs leaves (deeds.map toD) notes∧∃ dx w1 w2 b3 w4 dvs,H p=some (.ins cC dx (flds w1 w2 (.ref b3) w4))∧H b3=some (.lst dvs)∧zdD H deeds dvs
theorem zdm.same {K:Fg}{cC:Addr}{H H':Hp}{p:Addr}{needs leaves:List (List Int)}{deeds:List Dd}{notes:List (List (List Int))}(e:Same H H') (h:zdm K cC H p needs leaves deeds notes):zdm K cC H' p needs leaves deeds notes:=by
 obtain⟨h0,dx,w1,w2,b3,w4,dvs,h1,h2,h3⟩:=h
 exact⟨h0.same e,dx,w1,w2,b3,w4,dvs,e _ _ h1,e _ _ h2,h3.same e⟩
def ziF (K:Fg) (cC:Addr) (H:Hp) (kvs:List (Key × V)) (oath:Oath):Dd→Prop
 | .call m _ _ _ _=>∃ o deeds ns,valV kvs (.inl m)=some (.ref o)∧zbM K cC H o (oath m).1 (oath m).2 deeds ns∧Good (oath m).1 (oath m).2 deeds.length ns
 | _=>True
theorem ziF.same {K:Fg}{cC:Addr}{H H':Hp}{kvs:List (Key × V)}{oath:Oath}{d:Dd}(h:ziF K cC H kvs oath d) (e:Same H H'):ziF K cC H' kvs oath d:=by
 cases d with
 | call m g0 g1 t0 t1=>
  obtain⟨o,ds,ns,h1,h2,h3⟩:=h
  exact⟨o,ds,ns,h1,h2.same e,h3⟩
 | _=>trivial
theorem zbM.nod {K:Fg}{cC:Addr}{H H':Hp}{p:Addr}{needs leaves:List (List Int)}{deeds:List D}{notes:List (List (List Int))}(e:NoD H H') (h:zbM K cC H p needs leaves deeds notes):zbM K cC H' p needs leaves deeds notes:=by
 obtain⟨dx,w1,w2,w3,w4,h0,h1,h2,h3,h4⟩:=h
 exact⟨dx,w1,w2,w3,w4,e _ _ h0 (λ_ z=>by cases z),Rep.sq e.sq _ h1,Rep.sq e.sq _ h2,Rep.sq e.sq _ h3,Rep.sq e.sq _ h4⟩
end My

namespace My
open PySem L2 PyProof.Rows
def ziG (ls:List (List Int)) (ws:List Int):Prop:=∀ (i:Nat) (l:List Int) (w:Int),ls[i]?=some l→ws[i]?=some w→∀ n∈l,CMul n w
theorem zcS {n:Nat}(h:n≤1000):n<sizeLine:=Nat.lt_of_le_of_lt h (by decide)
section
variable {cH cC : Addr} {H H' : Hp} {h la va : Addr} {ks vs : List Int} {cr : Int → Cr} {fp : List Addr}
end
end My

namespace My
open PySem L2 PyProof.Rows
end My

set_option maxHeartbeats 8000000
local macro_rules | `(tactic| walk_at "gs1") => `(tactic| first
  | with_reducible refine L2.i_asg ?_
  | with_reducible refine L2.zlY ?_
  | with_reducible refine L2.i_ret ?_
  | with_reducible refine L2.znm ?_
  | with_reducible refine L2.znn ?_
  | with_reducible refine L2.i_ifK fun T kT U kU => ?_
  | with_reducible refine L2.i_if ?_
  | with_reducible refine L2.znj ?_
  | with_reducible refine L2.i_B ?_
  | with_reducible refine L2.i_bl ?_
  | with_reducible refine L2.iteT ?_
  | with_reducible refine L2.iteF ?_
  | with_reducible refine L2.iteNT ?_
  | with_reducible refine L2.iteNF ?_
  | with_reducible refine L2.zkG ?_
  | with_reducible refine L2.i_bm ?_
  | with_reducible refine L2.i_bm0 ?_
  | with_reducible refine L2.znA ?_
  | with_reducible refine L2.i_fld ?_
  | with_reducible refine L2.znB ?_
  | with_reducible refine L2.zl3 ?_
  | with_reducible refine L2.znr ?_
  | with_reducible refine L2.i_orV ?_
  | with_reducible refine L2.zns ?_
  | with_reducible refine L2.i_and ?_
  | with_reducible refine L2.i_or ?_
  | with_reducible refine L2.i_not ?_
  | with_reducible refine L2.i_for ?_
  | with_reducible refine L2.znt ?_
  | with_reducible refine L2.zlZ ?_
  | with_reducible refine L2.znu ?_
  | with_reducible refine L2.i_zip ?_
  | with_reducible refine L2.i_enum ?_
  | with_reducible refine L2.i_rev ?_
  | with_reducible refine L2.znv ?_
  | with_reducible refine L2.i_rng2 ?_
  | with_reducible refine L2.i_sl ?_
  | with_reducible refine L2.zkH ?_
  | with_reducible refine L2.znw ?_
  | with_reducible refine L2.zl0 ?_
  | with_reducible refine L2.i_par ?_
  | with_reducible refine L2.i_parv ?_
  | with_reducible refine L2.znx ?_
  | with_reducible refine L2.i_c ?_
  | with_reducible refine L2.zmb ?_
  | with_reducible refine L2.znK ?_
  | with_reducible refine L2.zmd ?_
  | with_reducible refine L2.zkT ?_
  | with_reducible refine L2.i_op ?_
  | with_reducible refine L2.i_un ?_
  | with_reducible refine L2.znk ?_
  | with_reducible refine L2.i_nil ?_
  | with_reducible refine L2.znl ?_
  | with_reducible refine L2.zmf ?_
  | with_reducible refine L2.i_fs ?_
  | with_reducible refine L2.zmh ?_
  | with_reducible refine L2.i_din ?_
  | with_reducible refine L2.zkS ?_
  | with_reducible refine L2.znL ?_
  | with_reducible refine L2.znM ?_
  | with_reducible refine L2.znN ?_
  | with_reducible refine L2.i_dpop2 ?_
  | with_reducible refine L2.i_meth ?_
  | with_reducible refine L2.i_tru ?_
  | with_reducible refine L2.i_CB ?_
  | with_reducible refine L2.i_lst ?_
  | with_reducible refine L2.i_tup ?_
  | with_reducible refine L2.i_rI0 ?_
  | with_reducible refine L2.i_rU ?_
  | with_reducible refine L2.zlX ?_
  | with_reducible refine L2.i_eqI ?_
  | with_reducible refine L2.i_neI ?_
  | with_reducible refine L2.i_eqB ?_
  | with_reducible refine L2.i_neB ?_
  | with_reducible refine L2.i_eqS ?_
  | with_reducible refine L2.i_neS ?_
  | ((with_reducible refine L2.zfG ?_ ?_); focus (first | exact Or.inl ⟨by omega, by omega⟩ | exact Or.inr ⟨by omega, by omega⟩))
  | ((with_reducible refine L2.znh ?_ ?_); focus omega)
  | ((with_reducible refine L2.zni ?_ ?_ ?_); (focus omega); (focus omega))
  | ((with_reducible refine L2.i_pow ?_ ?_ ?_ ?_); (focus decide); (focus decide); (focus decide))
  | ((with_reducible refine L2.zng (v := ?_) ?_ ?_); rotate_left; focus rfl)
  | with_reducible refine L2.goOn (by assumption) ?_)
local macro_rules | `(tactic| walk_at "go1") => `(tactic| first | with_reducible refine L2.zlt fun NX kN => ?_ | walk_at "gs1" | (refine L2.zng (by rfl) ?_))
local macro_rules | `(tactic| walk_at "gs") => `(tactic| repeat (walk_at "gs1"))
local macro_rules | `(tactic| walk_at "go") => `(tactic| repeat (walk_at "go1"))
local macro_rules | `(tactic| walk_at "sc") => `(tactic| exact ⟨rfl, rfl, rfl, by decide +kernel, rfl, by decide +kernel, by decide +kernel⟩)
local macro_rules | `(tactic| walk_at "q") => `(tactic| ((try with_reducible refine L2.goOn (by assumption) ?_); with_reducible refine L2.zlt fun NX kN => ?_))
namespace My
open PySem L2 PyProof.Rows
section
open PySem PySem.Spec PySem.Calls PyProof.Rows PySem.W L2
theorem bA {K:Fg}(hA:((zBoo K).all id,zSee K)=(true,zSig)) (j:Nat) {b:Bool}(h:(zBoo K)[j]?=some b):b=true:=List.all_eq_true.mp (Prod.mk.inj hA).1 b (zmg h)
theorem eA {K:Fg}(hA:((zBoo K).all id,zSee K)=(true,zSig)) (j:Nat) {α:Type} [BEq α] [LawfulBEq α] {x y:α}(h:(zBoo K)[j]?=some (x == y)):x=y:=eq_of_beq (bA hA j h)
def fA {K:Fg}(hA:((zBoo K).all id,zSee K)=(true,zSig)) (i j:Nat) (a:Addr) (n q:Str) (d:Stmt) (h1:(zSee K)[i]?=some (L2.zbc K a)) (h2:zSig[i]?=some (gS n q d)) (h3:(zBoo K)[j]?=some (L2.zaD K a q)):=L2.znO (n:=n) (ps:=zay d) (b:=zat d) (sc:=zaf d) (Option.some.inj (h1.symm.trans ((congrArg (λl:List (Option L2.Sig)=>l[i]?) (Prod.mk.inj hA).2).trans h2))) (bA hA j h3)
end
theorem zmo:FnScope ["i"] ["i"] (zaf s_bare):=by walk_at "sc"
theorem zc0:FnScope ["lines","weights","total","line","weight"] ["lines","weights"] (zaf s_summed):=by walk_at "sc"
theorem zgN:FnScope ["line","eight","total"] ["line","eight"] (zaf s_turned):=by walk_at "sc"
theorem zd7:FnScope ["self","needs","leaves","deeds","notes"] ["self","needs","leaves","deeds","notes"] (zaf s_Craft___init__):=by walk_at "sc"
theorem zeV:FnScope ["lines"] ["lines"] (zaf s_copied_lines):=by walk_at "sc"
theorem zfb:FnScope ["deed"] ["deed"] (zaf s_copied_deed):=by walk_at "sc"
theorem zgO:FnScope ["craft"] ["craft"] (zaf s_called_by):=by walk_at "sc"
theorem ziH:FnScope ["low","number","high"] ["low","number","high"] (zaf s_between):=by walk_at "sc"
theorem zgP:FnScope ["craft","place","eight"] ["craft","place"] (zaf s_due_at):=by walk_at "sc"
theorem zdT:FnScope ["craft","crafts","number","told","place"] ["craft","crafts"] (zaf s_duties):=by walk_at "sc"
theorem zc1:FnScope ["craft","begun"] ["craft"] (zaf s_first_duties):=by walk_at "sc"
theorem zbH:FnScope ["craft","place","crafts","deed","notes","after","kind"] ["craft","place","crafts"] (zaf s_deed_duties):=by walk_at "sc"
theorem zbI:FnScope ["deed","notes","after","line","by","not_above","greatest"] ["deed","notes","after"] (zaf s_part_duties):=by walk_at "sc"
theorem zcs:FnScope ["deed","notes","after","from_low","to_high"] ["deed","notes","after"] (zaf s_draw_duties):=by walk_at "sc"
theorem zdn:FnScope ["line","notes","there","after","below_nought"] ["line","notes","there","after"] (zaf s_turn_duties):=by walk_at "sc"
theorem zbp:FnScope ["deed","notes","after","other","given","taken","giving","taking","before"] ["deed","notes","after","other"] (zaf s_call_duties):=by walk_at "sc"
theorem zgQ:FnScope ["goals","hypotheses"] ["goals","hypotheses"] (zaf s_each_from):=by walk_at "sc"
theorem zfS:FnScope ["lines","eight"] ["lines","eight"] (zaf s_all_turned):=by walk_at "sc"
theorem zfT:FnScope ["changes"] ["changes"] (zaf s_eight_with):=by walk_at "sc"
theorem zhr:FnScope ["number"] ["number"] (zaf s_constant):=by walk_at "sc"
theorem zgR:FnScope ["script","k"] ["script","k"] (zaf s_l_cell_at):=by walk_at "sc"
theorem zkZ:FnScope ["cell","k","many"] ["cell","k","many"] (zaf s_l_mix):=by walk_at "sc"
theorem zeW:FnScope ["cell","k","kind"] ["cell","k"] (zaf s_l_number):=by walk_at "sc"
theorem zc2:FnScope ["cell","zero","line","k"] ["cell","zero"] (zaf s_l_line_by):=by walk_at "sc"
theorem zbO:FnScope ["cell","count","line","hand","kind","low","given"] ["cell","count"] (zaf s_l_deed_by):=by walk_at "sc"
theorem zfU:FnScope ["cell","zero"] ["cell","zero"] (zaf s_l_lines_by):=by walk_at "sc"
theorem zbT:FnScope ["script","start","count","needs","leaves","deeds","notes"] ["script","start","count"] (zaf s_l_parts_by):=by walk_at "sc"
theorem ziI:FnScope ["found"] ["found"] (zaf s_l_whole):=by walk_at "sc"
theorem zgS:FnScope ["found"] ["found"] (zaf s_l_is_line):=by walk_at "sc"
theorem zcF:FnScope ["line","eight","found","k"] ["line","eight"] (zaf s_l_turned):=by walk_at "sc"
theorem zj3:FnScope ["i"] ["i"] (zaf s_l_bare):=by walk_at "sc"
theorem ziJ:FnScope ["line","eight","notes"] ["line","eight","notes"] (zaf s_l_alone):=by walk_at "sc"
theorem zdf:FnScope ["changes","eight","place","line"] ["changes"] (zaf s_l_eight):=by walk_at "sc"
theorem zhs:FnScope ["parts","place"] ["parts","place"] (zaf s_l_due_at):=by walk_at "sc"
theorem zft:FnScope ["first","second","times","more","found"] ["first","second","times","more"] (zaf s_l_added):=by walk_at "sc"
theorem zan:FnScope ["parts","place","others","deed","notes","follow","eight","front","more","new","under","up"] ["parts","place","others"] (zaf s_l_deed_duties):=by walk_at "sc"
theorem zbV:FnScope ["parts","others","zero","eight","found","place"] ["parts","others"] (zaf s_l_duties):=by walk_at "sc"
theorem zeX:FnScope ["number","cell","needs","leaves"] ["number","cell"] (zaf s_l_oath):=by walk_at "sc"
theorem zej:FnScope ["craft","crafts","e"] ["craft","crafts"] (zaf s_l_refused):=by walk_at "sc"
theorem zd8:FnScope ["found","due","mine","other"] ["found","due"] (zaf s_l_alike):=by walk_at "sc"
theorem zb8:FnScope ["script","count","parts","craft","others","crafts","deed","number","oath","kept","due","found","at","task","line"] ["script"] (zaf s_law):=by walk_at "sc"
structure Bl (K:Fg) (mg:Str→Option Value):Prop where
 all:mg "all"=none
 bool:mg "bool"=none
 int:mg "int"=none
 isinstance:mg "isinstance"=none
 len:mg "len"=none
 list:mg "list"=none
 max:mg "max"=none
 min:mg "min"=none
 range:mg "range"=none
 sorted:mg "sorted"=none
 tuple:mg "tuple"=none
 zip:mg "zip"=none
 c_NUMBERS:∃ t,mg "NUMBERS"=some (.int 9 t)
 c_FACTORS:∃ t,mg "FACTORS"=some (.int 8 t)
 c_ASKED_0:∃ t,mg "ASKED_0"=some (.int 4 t)
 c_ASKED_1:∃ t,mg "ASKED_1"=some (.int 5 t)
 c_NEW_0:∃ t,mg "NEW_0"=some (.int 6 t)
 c_NEW_1:∃ t,mg "NEW_1"=some (.int 7 t)
 t_LEFT_AS_HANDS:∃ a,mg "LEFT_AS_HANDS"=some (.ref a)∧∀ H,SqT K H a [.int 0,.int 1,.int 2,.int 3,.int 4,.int 5,.int 0,.int 1]
structure Zt (K:Fg) (mg:Str→Option Value) (C:Nat→Addr):Prop where
 c_Craft:Cls K (C 0)
 m_Craft:mg "Craft"=some (.ref (C 0))
 n_Craft_needs:zcL K (C 0) "needs"
 n_Craft_leaves:zcL K (C 0) "leaves"
 n_Craft_deeds:zcL K (C 0) "deeds"
 n_Craft_notes:zcL K (C 0) "notes"
 e_HallError:Err K (C 1) zcJ
 m_HallError:mg "HallError"=some (.ref (C 1))
 e_Unmet:Err K (C 2) (.ref (C 1)::zcJ)
 m_Unmet:mg "Unmet"=some (.ref (C 2))
section
variable {P : Program} {w : World} {K : Fg} {mg : Str → Option Value} {base : Heap}
def zbU (K:Fg):Sp:=λvs H Q _=>∃ (a:Addr) (ls:List (List Int)),vs=[.ref a]∧Rep K H (zaI ls) (.ref a)∧ls.length≤1000∧∀ v H',Same H H'→New H H' (zaI ls) v→Q v H'
theorem zeY {f:Addr}{fd:FuncData}(B:Bl K mg) {C:Nat→Addr}(Z:Zt K mg C)  (F:Fun K "copied_lines" "copied_lines" s_copied_lines f fd) (m:mg "copied_lines"=some (.ref f)):Fn P w K mg base "copied_lines" ["lines"] 1 (zbU K):=by
 refine Fn.of (k:=0) F zeV m (λ_ _ _ _ _ _ us hl=>match us,hl with | [_],_=>rfl) (λvs H Q E h=>?_) (λcdv A outer s H vs Q E hr h=>?_)
 ·first
  | (obtain⟨_,_,rfl,_⟩:=h;rfl)
 obtain⟨a,ls,rfl,hA,hl,q⟩:=h
 refine⟨_,(zal (zaA (zbf rfl (CompOk.m (sc0:=zaf s_copied_lines) (N:=["lines"]) (N':=["lines","line"]) (ms:=[false,true])) (za3 K (pv 0)) (λ_ _ _ _ _=>(zas (i:=1) (ndS (N:=["lines","line"])) rfl (Or.inl rfl))) (λ_ _ _ _ _=>zaJ) (λ_ _ _ _ _=>(zcR (zjE K) rfl B.list L2.zca (zad (pv 1) zaa)))))),?_⟩
 unfold zaI Rep at hA
 obtain⟨a',xs,e,hA,hx⟩:=hA
 cases e
 have lx:=hx.length
 rw[zlm] at lx
 walk_at "go"
 refine⟨a,rfl,⟨_,hA⟩,?_⟩
 refine zaO (zaV hA) (ls.map nums) (by rw[zlm];omega) (zag (by omega)) (λj x' d H4 R hj hd s4 hx' hR=>?_) (λv H4 s4 n4=>?_)
 ·obtain⟨d2,hd2,hrx⟩:=Reps.get' hx hx'
  rw[hd2] at hd;cases hd
  rw[zgm] at hd2
  obtain⟨l,hl,rfl⟩:=zme.mp hd2
  obtain⟨xa,rfl,hxa⟩:=zbJ.mp (Rep.same s4 _ hrx)
  walk_at "go"
  refine zfH (.inl hxa) λp hp=>?_
  exact hR _ _ (zae hp _) (New.ints_iff.mpr ⟨p,rfl,hp,zac⟩)
 exact q _ _ s4 n4
def zdo (K:Fg):Sp:=λvs H Q _=>∃ (v:V) (d:D),vs=[v]∧zb4 H d v∧∀ v' H',Same H H'→New H H' d v'→Q v' H'
theorem zfc {f:Addr}{fd:FuncData}(B:Bl K mg) {C:Nat→Addr}(Z:Zt K mg C)  (F:Fun K "copied_deed" "copied_deed" s_copied_deed f fd) (m:mg "copied_deed"=some (.ref f)):Fn P w K mg base "copied_deed" ["deed"] 1 (zdo K):=by
 refine Fn.of (k:=0) F zfb m (λ_ _ _ _ _ _ us hl=>match us,hl with | [_],_=>rfl) (λvs H Q E h=>?_) (λcdv A outer s H vs Q E hr h=>?_)
 ·first
  | (obtain⟨_,_,rfl,_⟩:=h;rfl)
 obtain⟨v,d,rfl,hd,q⟩:=h
 refine⟨_,(zal (zaA (zcR (zl1 K) rfl B.tuple L2.zfm (zfK (zbf rfl (CompOk.m (sc0:=zaf s_copied_deed) (N:=["deed"]) (N':=["deed","part"]) (ms:=[false,true])) (zlj K (pv 0)) (λ_ _ _ _ _=>(zas (i:=1) (ndS (N:=["deed","part"])) rfl (Or.inl rfl))) (λ_ _ _ _ _=>zaJ) (λ_ _ _ _ _=>(zhH (zdi (zaK (zhk K) rfl B.isinstance L2.za0 (zad (pv 1) (zad (zdu (v:=.ty "list") rfl B.list L2.zca rfl) zaa)))) (zcR (zjE K) rfl B.list L2.zca (zad (pv 1) zaa)) (pv 1)))) zaa)))),?_⟩
 obtain⟨t,xs,ds,rfl,rfl,ht,hl,h8,hp⟩:=hd
 walk_at "go"
 refine⟨t,rfl,⟨_,SqT.of ht⟩,?_⟩
 refine zaO (zhS (SqT.of ht)) ds hl (zag (by omega)) (λj x d H1 R hj hd s1 hx hR=>?_) (λv H1 s1 n1=>?_)
 ·have part:=(hp j d x hd hx).sq s1.sq
  walk_at "go"
  rcases part with ⟨i,rfl,rfl⟩ | ⟨i,rfl,rfl⟩ | ⟨b,l,rfl,rfl,hb⟩ | ⟨b,i,k,rfl,rfl,hb⟩
  ·refine ze7 (.int i) zgv ?_
   walk_at "go"
   exact hR _ _ (Same.refl _) New.int
  ·refine ze7 (.str i) zgw ?_
   walk_at "go"
   exact hR _ _ (Same.refl _) New.str
  ·refine ze7 (.lst hb) zdc ?_
   walk_at "go"
   refine zfH (.inl (SqL.of hb)) λp hp'=>?_
   exact hR _ _ (zae hp' _) (New.ints_iff.mpr ⟨p,rfl,hp',zac⟩)
  ·refine ze7 (.tup hb) ze8 ?_
   walk_at "go"
   exact hR _ _ (Same.refl _) ⟨[],RepF.pair hb,List.nodup_nil,λ_ m=>by cases m⟩
 obtain⟨la,vs,rfl,la0,la1,fp,f1,f2,f3⟩:=New.news n1
 walk_at "go"
 refine zkJ (SqL.of la1) λp hp'=>?_
 have s2:=zae hp' (.tup vs)
 exact q _ _ (s1.trans s2) (New.tup (zaj.sq s2.sq ds f1) f2 f3 zac)
def zbW (K:Fg) (C:Nat→Addr):Sp:=λvs H Q _=>∃ (p dx:Addr) (v1 v2 v3 v4:V) (needs leaves:List (List Int)) (deeds:List D) (notes:List (List (List Int))) (a3 a4:Addr) (dvs nvs:List V),vs=[.ref p,v1,v2,v3,v4]∧
 H p=some (.ins (C 0) dx [])∧Rep K H (zaI needs) v1∧Rep K H (zaI leaves) v2∧v3=.ref a3∧SqL K H a3 dvs∧v4=.ref a4∧SqL K H a4 nvs∧
 needs.length≤1000∧leaves.length≤1000∧deeds.length≤1000∧notes.length≤1000∧deeds.length=dvs.length∧notes.length=nvs.length∧(∀ (i:Nat) d x,deeds[i]?=some d→dvs[i]?=some x→zb4 H d x)∧
 (∀ (i:Nat) ls x,notes[i]?=some ls→nvs[i]?=some x→ls.length≤1000∧Rep K H (zaI ls) x)∧
 ∀ H' w1 w2 w3 w4,(∀ b o,H b=some o→b≠p→H' b=some o)→H' p=some (.ins (C 0) dx (flds w1 w2 w3 w4))→News H H' (zj2 needs leaves deeds notes) [w1,w2,w3,w4]→Q .non H'
theorem zk0 {f:Addr}{fd:FuncData}(B:Bl K mg) {C:Nat→Addr}(Z:Zt K mg C) (G_copied_lines:Fn P w K mg base "copied_lines" ["lines"] 1 (zbU K)) (G_copied_deed:Fn P w K mg base "copied_deed" ["deed"] 1 (zdo K)) (F:Fun K "__init__" "Craft.__init__" s_Craft___init__ f fd) (M:Mk K (C 0) f):Mkr P w K mg base "Craft" (C 0) ["self","needs","leaves","deeds","notes"] 2 (zbW K C):=by
 refine⟨f,fd,M,F.ok (k:=1) zd7 (λvs H Q E h=>?_) (λcdv A outer s H vs Q E hr h=>?_),F.binds λ_ _ _ _ _ _ us hl=>match us,hl with | [_,_,_,_,_],_=>rfl,Z.m_Craft⟩
 ·first
  | (obtain⟨_,_,_,_,_,_,_,_,_,_,_,_,_,_,rfl,_⟩:=h;rfl)
 obtain⟨p,dx,v1,v2,v3,v4,needs,leaves,deeds,notes,a3,a4,dvs,nvs,rfl,hp,r1,r2,rfl,h3,rfl,h4,l1,l2,l3,l4,e3,e4,dr,nr,q⟩:=h
 refine⟨_,(zah (zhJ (pv 0) (zao G_copied_lines hr rfl (zad (pv 1) zaa)) rfl)
   (zah (zhJ (pv 0) (zao G_copied_lines hr rfl (zad (pv 2) zaa)) rfl)
   (zah (zhJ (pv 0) (zbf rfl (CompOk.m (sc0:=zaf s_Craft___init__) (N:=["self","needs","leaves","deeds","notes"]) (N':=["self","needs","leaves","deeds","notes","deed"]) (ms:=[false,false,false,false,false,true])) (za3 K (pv 3)) (λ_ _ _ _ _=>(zas (i:=5) (ndS (N:=["self","needs","leaves","deeds","notes","deed"])) rfl (Or.inl rfl))) (λ_ _ _ _ _=>zaJ) (λ_ _ _ _ _=>(zao G_copied_deed hr rfl (zad (pv 5) zaa)))) rfl)
   (zal (zhJ (pv 0) (zbf rfl (CompOk.m (sc0:=zaf s_Craft___init__) (N:=["self","needs","leaves","deeds","notes"]) (N':=["self","needs","leaves","deeds","notes","lines"]) (ms:=[false,false,false,false,false,true])) (za3 K (pv 4)) (λ_ _ _ _ _=>(zas (i:=5) (ndS (N:=["self","needs","leaves","deeds","notes","lines"])) rfl (Or.inl rfl))) (λ_ _ _ _ _=>zaJ) (λ_ _ _ _ _=>(zao G_copied_lines hr rfl (zad (pv 5) zaa)))) rfl))))),?_⟩
 obtain⟨b1,rfl⟩:∃ b,v1=.ref b:=by unfold zaI Rep at r1;obtain⟨a,_,e,_⟩:=r1;exact⟨a,e⟩
 obtain⟨b2,rfl⟩:∃ b,v2=.ref b:=by unfold zaI Rep at r2;obtain⟨a,_,e,_⟩:=r2;exact⟨a,e⟩
 walk_at "go"
 -- self.needs
 refine⟨b1,needs,rfl,r1,l1,λw1 H1 s1 n1=>?_⟩
 walk_at "go"
 refine⟨p,(C 0),dx,[],rfl,s1 _ _ hp,Z.c_Craft,Z.n_Craft_needs,by show 0<1000;decide,?_⟩
 have k1:Sq H (upd H1 p (.ins (C 0) dx (putF "needs" w1 []))):=s1.sq.trans (zeN (s1 _ _ hp) rfl)
 have u1:News H (upd H1 p (.ins (C 0) dx (putF "needs" w1 []))) [zaI needs] [w1]:=(News.nil.snoc' (H:=H) (H1:=H) (Same.refl H).fr s1 n1).sq (zeN (s1 _ _ hp) rfl)
 have f1:Free H (upd H1 p (.ins (C 0) dx (putF "needs" w1 []))):=s1.fr.trans zev
 -- self.leaves
 walk_at "go"
 refine⟨b2,leaves,rfl,Rep.sq k1 _ r2,l2,λw2 H2 s2 n2=>?_⟩
 have p2:=s2 _ _ (zac (H:=H1) (a:=p) (o:=.ins (C 0) dx (putF "needs" w1 [])))
 walk_at "go"
 refine⟨p,(C 0),dx,_,rfl,p2,Z.c_Craft,Z.n_Craft_leaves,Nat.lt_of_lt_of_le (zde (n:=1) (by decide)) (by decide),?_⟩
 have k2:=k1.trans (s2.sq.trans (zeN (o:=.ins (C 0) dx (putF "leaves" w2 (putF "needs" w1 []))) p2 rfl))
 have u2:=(u1.snoc' f1 s2 n2).sq (zeN (o:=.ins (C 0) dx (putF "leaves" w2 (putF "needs" w1 []))) p2 rfl)
 have f2:Free H (upd H2 p (.ins (C 0) dx (putF "leaves" w2 (putF "needs" w1 [])))):=f1.trans (s2.fr.trans zev)
 -- self.deeds
 walk_at "go"
 refine⟨a3,rfl,⟨_,k2.lst h3⟩,?_⟩
 refine zaO (zaV (k2.lst h3)) deeds e3 (zag (by omega)) (λj x d H3 R hj hd s3 hx hR=>?_) (λw3 H3 s3 n3=>?_)
 ·walk_at "go"
  refine⟨x,d,rfl,(dr j d x hd hx).sq (k2.trans s3.sq),λv' H4 s4 n4=>?_⟩
  exact hR _ _ s4 n4
 have p3:=s3 _ _ (zac (H:=H2) (a:=p) (o:=.ins (C 0) dx (putF "leaves" w2 (putF "needs" w1 []))))
 walk_at "go"
 refine⟨p,(C 0),dx,_,rfl,p3,Z.c_Craft,Z.n_Craft_deeds,Nat.lt_of_lt_of_le (zde (n:=2) (zde (n:=1) (by decide))) (by decide),?_⟩
 have k3:=k2.trans (s3.sq.trans (zeN (o:=.ins (C 0) dx (putF "deeds" w3 (putF "leaves" w2 (putF "needs" w1 [])))) p3 rfl))
 have u3:=(u2.snoc' f2 s3 n3).sq (zeN (o:=.ins (C 0) dx (putF "deeds" w3 (putF "leaves" w2 (putF "needs" w1 [])))) p3 rfl)
 have f3:Free H (upd H3 p (.ins (C 0) dx (putF "deeds" w3 (putF "leaves" w2 (putF "needs" w1 []))))):=f2.trans (s3.fr.trans zev)
 -- self.notes
 walk_at "go"
 refine⟨a4,rfl,⟨_,k3.lst h4⟩,?_⟩
 refine zaO (zaV (k3.lst h4)) (notes.map zaI) (by rw[zlm];exact e4) (zag (by omega)) (λj x d H4 R hj hd s4 hx hR=>?_) (λw4 H4 s4 n4=>?_)
 ·rw[zgm] at hd
  obtain⟨ls,hls,rfl⟩:=zme.mp hd
  obtain⟨hz,hr2⟩:=nr j ls x hls hx
  have hr3:=Rep.sq (k3.trans s4.sq) _ hr2
  obtain⟨b,rfl⟩:∃ b,x=.ref b:=by unfold zaI Rep at hr3;obtain⟨a,_,e,_⟩:=hr3;exact⟨a,e⟩
  walk_at "go"
  refine⟨b,ls,rfl,hr3,hz,λv' H5 s5 n5=>?_⟩
  exact hR _ _ s5 n5
 have p4:=s4 _ _ (zac (H:=H3) (a:=p) (o:=.ins (C 0) dx (putF "deeds" w3 (putF "leaves" w2 (putF "needs" w1 [])))))
 walk_at "go"
 refine⟨p,(C 0),dx,_,rfl,p4,Z.c_Craft,Z.n_Craft_notes,Nat.lt_of_lt_of_le (zde (n:=3) (zde (n:=2) (zde (n:=1) (by decide)))) (by decide),?_⟩
 have u4:=(u3.snoc' f3 s4 n4).sq (zeN (o:=.ins (C 0) dx (putF "notes" w4 (putF "deeds" w3 (putF "leaves" w2 (putF "needs" w1 []))))) p4 rfl)
 refine q _ w1 w2 w3 w4 (λb o e hb=>?_) zac u4
 rw[zaw hb]
 refine s4 _ _ ?_
 rw[zaw hb]
 refine s3 _ _ ?_
 rw[zaw hb]
 refine s2 _ _ ?_
 rw[zaw hb]
 exact s1 _ _ e
def zc3 (K:Fg):Sp:=λvs H Q _=>∃ i:Int,vs=[.int i]∧∀ v H',Same H H'→New H H' (nums (zaq i)) v→Q v H'
theorem zcn {H:Hp}{Q:VK}{E:XK}{i:Int}(q:∀ v H',Same H H'→New H H' (nums (zaq i)) v→Q v H'):zc3 K [.int i] H Q E:=⟨i,rfl,q⟩
theorem zmp {f:Addr}{fd:FuncData}(B:Bl K mg) {C:Nat→Addr}(Z:Zt K mg C)  (F:Fun K "bare" "bare" s_bare f fd) (m:mg "bare"=some (.ref f)):Fn P w K mg base "bare" ["i"] 1 (zc3 K):=by
 refine Fn.of (k:=0) F zmo m (λ_ _ _ _ _ _ us hl=>match us,hl with | [_],_=>rfl) (λvs H Q E h=>?_) (λcdv A outer s H vs Q E hr h=>?_)
 ·first
  | (obtain⟨_,rfl,_⟩:=h;rfl)
 obtain⟨i,rfl,q⟩:=h
 refine⟨_,(zal (zaA (zau (zaF K) (zaH (zai zab zaa)) (zbf rfl (CompOk.m (sc0:=zaf s_bare) (N:=["i"]) (N':=["i","factor"]) (ms:=[false,true])) (zbd rfl B.range (zad (zbC rfl B.c_FACTORS) zaa)) (λ_ _ _ _ _=>(zas (i:=1) (ndS (N:=["i","factor"])) rfl (Or.inl rfl))) (λ_ _ _ _ _=>zaJ) (λ_ _ _ _ _=>(zhH (zaR (k_eq K hr) (pv 1) (pv 0) (za1 _)) zab zab)))))),?_⟩
 walk_at "go"
 refine⟨by decide,λp hp=>?_⟩
 walk_at "go"
 refine zbQ (by decide) (by decide) ?_
 refine zaO (n:=8) zbo (((List.range 8).map λ(k:Nat)=>(if (0+(k:Int))=i then 1 else 0:Int)).map D.int) (by simp) (by decide) (λj x d H1 R hj hd s1 hx hR=>?_) (λv H1 s1 n1=>?_)
 ·subst hx
  rw[List.map_map] at hd
  have hd':=zbR hd
  subst hd'
  walk_at "go"
  refine ite2 (λe=>?_) (λe=>?_)
  ·have e':0+(j:Int)=i:=of_decide_eq_true e
   walk_at "go"
   refine hR _ _ (Same.refl _) ?_
   simp only[Function.comp,if_pos e']
   exact New.int
  ·have e':¬ 0+(j:Int)=i:=of_decide_eq_false (Bool.eq_false_iff.mpr e)
   walk_at "go"
   refine hR _ _ (Same.refl _) ?_
   simp only[Function.comp,if_neg e']
   exact New.int
 obtain⟨la,rfl,la0,la1⟩:=New.ints_iff.mp n1
 have s2:=(zae hp (.lst [.int 0])).trans s1
 refine zbk (s1 _ _ zac) la1 (by simp;decide) λr hr'=>?_
 refine q _ _ (s2.trans (zae hr' _)) (New.ints_iff.mpr ⟨r,rfl,s2.free hr',?_⟩)
 rw[zac]
 rfl
def zc4 (K:Fg):Sp:=λvs H Q _=>∃ (a b:Addr) (ls:List (List Int)) (ws:List Int),vs=[.ref a,.ref b]∧Rep K H (.lst (ls.map nums)) (.ref a)∧SqL K H b (ws.map V.int)∧ls.length=ws.length∧ls.length≤1000∧(∀ l∈ls,l.length=9)∧ziG ls ws∧
 ∀ v H',Same H H'→New H H' (nums (zbr ls ws)) v→Q v H'
theorem zj4 {f:Addr}{fd:FuncData}(B:Bl K mg) {C:Nat→Addr}(Z:Zt K mg C)  (F:Fun K "summed" "summed" s_summed f fd) (m:mg "summed"=some (.ref f)):Fn P w K mg base "summed" ["lines","weights"] 1 (zc4 K):=by
 refine Fn.of (k:=0) F zc0 m (λ_ _ _ _ _ _ us hl=>match us,hl with | [_,_],_=>rfl) (λvs H Q E h=>?_) (λcdv A outer s H vs Q E hr h=>?_)
 ·first
  | (obtain⟨_,_,_,_,rfl,_⟩:=h;rfl)
 obtain⟨a,b,ls,ws,rfl,hA,hB,hl,h1000,h9,ok,q⟩:=h
 refine⟨_,(zah (zaB (i:=2) zc0.nd rfl (Or.inl rfl) (zau zbi (zaH (zai zab zaa)) (zbC rfl B.c_NUMBERS)))
   (zah (zcK PassesOwn.never rfl (zgt K rfl B.zip (zad (pv 0) (zad (pv 1) zaa))) (zeL K (n:=2) rfl (zbs (zas (i:=3) zc0.nd rfl (Or.inl rfl)) (zbs (zas (i:=4) zc0.nd rfl (Or.inr rfl)) zdv))) (zal (zbb (i:=2) zc0.nd rfl rfl rfl (CompOk.m (sc0:=zaf s_summed) (N:=["lines","weights","total","line","weight"]) (N':=["lines","weights","total","line","weight","so_far","number"]) (ms:=[false,false,false,false,false,true,true])) (zgt K rfl B.zip (zad (pv 2) (zad (pv 3) zaa))) (λ_ _ _ _ _=>(zeL K (n:=2) rfl (zbs (zas (i:=5) (ndS (N:=["lines","weights","total","line","weight","so_far","number"])) rfl (Or.inl rfl)) (zbs (zas (i:=6) (ndS (N:=["lines","weights","total","line","weight","so_far","number"])) rfl (Or.inl rfl)) zdv)))) (λ_ _ _ _ _=>zaJ) (λ_ _ _ _ _=>(zau (zaF K) (pv 5) (zau zbi (pv 6) (pv 4)))))))
   (zal (zaA (pv 2))))),?_⟩
 unfold Rep at hA
 obtain⟨a',xs,e,hA,hx⟩:=hA
 cases e
 have lx:=hx.length
 rw[zlm] at lx
 walk_at "go"
 refine⟨by decide,λp hp=>?_⟩
 walk_at "go"
 refine .inr ⟨p,9,[.int 0],rfl,rfl,zac,by decide,by decide,by decide,λt ht=>?_⟩
 have s0:=(zae hp (.lst [.int 0])).trans (zae ht (.lst (List.replicate (9:Int).toNat [V.int 0]).flatten))
 walk_at "go"
 refine⟨a,b,rfl,⟨_,s0.seq hA⟩,⟨_,s0.seq hB⟩,?_⟩
 refine zhi (n:=ws.length) (zdK (s0.seq hA) (s0.seq hB) (by rw[zlm];omega)) (λi σ H2=>∃ (ta:Addr) (x y:Option V),σ=[some (.ref a),some (.ref b),some (.ref ta),x,y]∧Same (upd (upd H p (.lst [.int 0])) t (.lst (List.replicate (9:Int).toNat [V.int 0]).flatten)) H2∧H ta=none∧H2 ta=some (.lst ((zcg ((ls.zip ws).take i) (List.replicate 9 0)).map V.int)))
  ⟨t,none,none,rfl,Same.refl _,(zae hp _).free ht,by rw[zac];rfl⟩ (λi σ H2 ⟨_,_,_,_,e,_⟩=>e) ?_ ?_
 ·rintro i v σ H2 H3 hi ⟨ta,x,y,rfl,s2,ta0,ta1⟩ s3 ⟨T,u,z,rfl,hT,eu,ez⟩
  have il:i<ls.length:=by omega
  rw[zgm] at ez
  obtain⟨w',hw,rfl⟩:=zme.mp ez
  obtain⟨dl,hdl,hru⟩:=hx.get' eu
  rw[zgm,List.getElem?_eq_getElem il] at hdl
  cases hdl
  obtain⟨lu,rfl,hlu⟩:=zbJ.mp (Rep.same (s0.trans (s2.trans s3)) _ hru)
  have l9:=h9 ls[i] (List.getElem_mem il)
  have ft9:(zcg ((ls.zip ws).take i) (List.replicate 9 0)).length=9:=zcm _ _ (by simp) λp hp=>zfM h9 p (List.mem_of_mem_take hp)
  refine⟨T,_,rfl,SqT.of hT,rfl,⟨_,_,rfl,?_⟩⟩
  refine⟨_,_,rfl,?_⟩
  refine⟨rfl,?_⟩
  walk_at "go"
  refine⟨ta,lu,rfl,⟨_,SqL.of (s3 _ _ ta1)⟩,⟨_,hlu⟩,?_⟩
  refine zaO (n:=9) (zdK (SqL.of (s3 _ _ ta1)) hlu (by rw[zlm,zlm,ft9,l9];rfl)) ((addW w' (zcg ((ls.zip ws).take i) (List.replicate 9 0)) ls[i]).map D.int) (by rw[zlm];exact zcb ft9 l9) (by decide) (λj x' d H4 R hj hd s4 hx' hR=>?_) (λv H4 s4 n4=>?_)
  ·obtain⟨T2,u2,z2,rfl,hT2,e1,e2⟩:=hx'
   rw[zgm] at e1 e2
   obtain⟨s',hs',rfl⟩:=zme.mp e1
   obtain⟨n',hn',rfl⟩:=zme.mp e2
   have ed:d=.int (s' + n' * w'):=by
    unfold addW at hd
    rw[zgm,List.getElem?_zipWith,hs',hn'] at hd
    cases hd
    rfl
   subst ed
   refine⟨T2,_,rfl,SqT.of hT2,rfl,⟨_,_,rfl,?_⟩⟩
   refine⟨_,_,rfl,?_⟩
   refine⟨rfl,?_⟩
   walk_at "go"
   refine zfG (ok i ls[i] w' (by simp) hw n' (zmg hn')) ?_
   walk_at "go"
   exact hR _ _ (Same.refl _) New.int
  obtain⟨na,rfl,na0,na1⟩:=New.ints_iff.mp n4
  walk_at "go"
  refine⟨na,_,_,rfl,s2.trans (s3.trans s4),(s0.trans (s2.trans s3)).free na0,?_⟩
  rw[na1,List.take_add_one,zjQ (List.getElem?_eq_getElem il) hw,zfp]
 ·rintro σ H2 ⟨ta,x,y,rfl,s2,ta0,ta1⟩
  walk_at "go"
  refine q _ _ (s0.trans s2) (New.ints_iff.mpr ⟨ta,rfl,ta0,?_⟩)
  rw[ta1,List.take_of_length_le (by rw[List.length_zip];omega)]
  rfl
def zeZ (K:Fg):Sp:=λvs H Q _=>∃ (a b:Addr) (c:Int) (fs:List Int) (ls:List (List Int)),vs=[.ref a,.ref b]∧SqL K H a ((c::fs).map V.int)∧Rep K H (.lst (ls.map nums)) (.ref b)∧fs.length=8∧ls.length=8∧(∀ l∈ls,l.length=9)∧ziG ls fs∧
 ∀ v H',Same H H'→New H H' (nums (zaG (c::fs) ls)) v→Q v H'
theorem zk1 (c:Int) (fs:List Int):cutV ((c::fs).map V.int) (some 1) none=fs.map V.int:=by
 unfold cutV
 rw[show HT.sIx ((c::fs).map V.int).length 0 (some 1)=1 by rw[show (1:Int)=((1:Nat):Int) by rfl,HT.sIx_nat];simp]
 rw[HT.sIx_none]
 simp[List.take_of_length_le]
theorem zj5 {f:Addr}{fd:FuncData}(B:Bl K mg) {C:Nat→Addr}(Z:Zt K mg C) (G_summed:Fn P w K mg base "summed" ["lines","weights"] 1 (zc4 K)) (F:Fun K "turned" "turned" s_turned f fd) (m:mg "turned"=some (.ref f)):Fn P w K mg base "turned" ["line","eight"] 2 (zeZ K):=by
 refine Fn.of (k:=1) F zgN m (λ_ _ _ _ _ _ us hl=>match us,hl with | [_,_],_=>rfl) (λvs H Q E h=>?_) (λcdv A outer s H vs Q E hr h=>?_)
 ·first
  | (obtain⟨_,_,_,_,_,rfl,_⟩:=h;rfl)
 obtain⟨a,b,c,fs,ls,rfl,hA,hB,lf,ll,h9,ok,q⟩:=h
 refine⟨_,(zah (zaB (i:=2) zgN.nd rfl (Or.inl rfl) (zao G_summed hr rfl (zad (pv 1) (zaT (zci (k_sl K) (pv 0) (zcA zab) zdz) zaa))))
   (zah (zew (zau (zaF K) (zav (k_ix K) (pv 2) zab (λ_ _=>rfl)) (zav (k_ix K) (pv 0) zab (λ_ _=>rfl))) (zfi (pv 2) zab zda))
   (zal (zaA (pv 2))))),?_⟩
 walk_at "go"
 refine .inl ⟨a,_,rfl,hA,λp hp=>?_⟩
 rw[zk1]
 have s1:=zae hp (.lst (fs.map V.int))
 walk_at "go"
 refine⟨b,p,ls,fs,rfl,Rep.same s1 _ hB,SqL.of zac,by omega,by omega,h9,ok,λv H2 s2 n2=>?_⟩
 obtain⟨ta,rfl,ta0,ta1⟩:=New.ints_iff.mp n2
 have s3:=s1.trans s2
 obtain⟨x,r,hs⟩:∃ x r,zbr ls fs=x::r:=by
  have:=zaL (ws:=fs) h9
  cases e:zbr ls fs with
  | nil=>rw[e] at this;simp at this
  | cons x r=>exact⟨x,r,rfl⟩
 rw[hs] at ta1
 walk_at "go"
 refine zbE (SqL.of ta1) (v:=.int x) zar ?_
 walk_at "go"
 refine zbE (s3.seq hA) (v:=.int c) zar ?_
 walk_at "go"
 refine zeK ta1 ix0 ?_
 walk_at "go"
 have ta2:=s1.free ta0
 refine q _ _ (λd o e=>?_) (New.ints_iff.mpr ⟨ta,rfl,ta2,?_⟩)
 ·rw[zaw (zaY e ta2)];exact s3 _ _ e
 ·rw[zac]
  unfold zaG
  rw[show (c::fs).tail=fs by rfl,hs]
  rfl
def zco (deeds:List Dd) (i:Nat):Bool:=match deeds[i]? with
 | some d=>(zbD d).isSome
 | none=>false
def zek (deeds:List Dd) (i:Nat):D:=match deeds[i]? with
 | some d=>.int ((zbD d).getD 0)
 | none=>.int 0
theorem zfu:∀ (deeds:List Dd),((List.range deeds.length).filter (zco deeds)).map (zek deeds)=(za7 deeds).map D.int
 | []=>rfl
 | d::ds=>by
  have ih:=zfu ds
  have f:(List.map Nat.succ (List.range ds.length)).filter (zco (d::ds))=((List.range ds.length).filter (zco ds)).map Nat.succ:=by
   rw[List.filter_map];rfl
  have g:(((List.range ds.length).filter (zco ds)).map Nat.succ).map (zek (d::ds))=(za7 ds).map D.int:=by
   rw[List.map_map,←ih];rfl
  rw[List.length_cons,List.range_succ_eq_map,List.filter_cons,f]
  unfold za7 at g ⊢
  cases e:zbD d with
  | none=>
   rw[show zco (d::ds) 0=false by unfold zco;simp[e],if_neg (by decide),List.filterMap_cons,e]
   exact g
  | some m=>
   rw[show zco (d::ds) 0=true by unfold zco;simp[e],if_pos rfl,List.filterMap_cons,e,zmc,zmc,g,show zek (d::ds) 0=.int m by unfold zek;simp[e]]
theorem zj6 (deeds:List Dd) (n:Nat) (h:n=deeds.length):((List.range n).filter (zco deeds)).map (zek deeds)=(za7 deeds).map D.int:=by
 subst h;exact zfu deeds
def zel (K:Fg) (C:Nat→Addr):Sp:=λvs H Q _=>∃ (p:Addr) (dx b3:Addr) (w1 w2 w4:V) (dvs:List V) (deeds:List Dd),vs=[.ref p]∧H p=some (.ins (C 0) dx (flds w1 w2 (.ref b3) w4))∧H b3=some (.lst dvs)∧zdD H deeds dvs∧deeds.length≤1000∧
 ∀ v H',Same H H'→New H H' (nums (za7 deeds)) v→Q v H'
theorem zgT {f:Addr}{fd:FuncData}(B:Bl K mg) {C:Nat→Addr}(Z:Zt K mg C)  (F:Fun K "called_by" "called_by" s_called_by f fd) (m:mg "called_by"=some (.ref f)):Fn P w K mg base "called_by" ["craft"] 1 (zel K C):=by
 refine Fn.of (k:=0) F zgO m (λ_ _ _ _ _ _ us hl=>match us,hl with | [_],_=>rfl) (λvs H Q E h=>?_) (λcdv A outer s H vs Q E hr h=>?_)
 ·first
  | (obtain⟨_,_,_,_,_,_,_,_,rfl,_⟩:=h;rfl)
 obtain⟨p,dx,b3,w1,w2,w4,dvs,deeds,rfl,hp,hb3,hD,hl,q⟩:=h
 refine⟨_,(zal (zaA (zbf rfl (CompOk.m (sc0:=zaf s_called_by) (N:=["craft"]) (N':=["craft","deed"]) (ms:=[false,true])) (za3 K (zeM K (pv 0) rfl)) (λ_ _ _ _ _=>(zas (i:=1) (ndS (N:=["craft","deed"])) rfl (Or.inl rfl))) (λ_ _ _ _ _=>(zkx (zaR (k_eq K hr) (zav (k_ix K) (pv 1) zab (λ_ _=>rfl)) zbN (za1 _)))) (λ_ _ _ _ _=>(zav (k_ix K) (pv 1) zab (λ_ _=>rfl)))))),?_⟩
 have ld:=hD.1
 walk_at "go"
 refine⟨p,(C 0),dx,_,_,rfl,hp,Z.c_Craft,Z.n_Craft_deeds,zdS _ _ _ _,?_⟩
 refine⟨b3,rfl,⟨_,SqL.of hb3⟩,?_⟩
 refine zjC (zaV (SqL.of hb3)) (zco deeds) (zek deeds) (zag (by omega)) (λi x H1 R1 R2' hi s1 hx hy hn=>?_) (λv H1 s1 n1=>?_)
 ·have hi':i<deeds.length:=by omega
  have drx:=(hD.2 i deeds[i] x (by simp) hx).sq s1.sq
  have ek:zco deeds i=(zbD deeds[i]).isSome:=by unfold zco;simp[hi']
  have en:zek deeds i=.int ((zbD deeds[i]).getD 0):=by unfold zek;simp[hi']
  generalize deeds[i]=d at drx ek en
  obtain⟨t,xs,rfl,ht⟩:=zfP drx
  walk_at "gs"
  refine zax (SqT.of ht) zar ?_
  walk_at "gs"
  have ew:decide (zb6 d ="call")=zco deeds i:=by
   rw[ek]
   cases d <;> first | rfl | (unfold zb6 zbD;decide +kernel)
  rw[ew]
  cases hk:zco deeds i with
  | false=>
   rw[if_neg (by decide)]
   exact hn hk _ (Same.refl _)
  | true=>
   rw[if_pos rfl]
   rw[hk] at ek
   cases d with
   | call m g0 g1 t0 t1=>
    obtain⟨t',ys,et,hT2,px⟩:=za6 drx
    cases et
    obtain⟨x0,r,rfl,e0,px⟩:=zam px
    obtain⟨x1,r,rfl,e1,px⟩:=zam px
    cases za9 e1
    walk_at "gs"
    refine zax (SqT.of hT2) (v:=.int m) (zap (j:=1) rfl) ?_
    refine hy hk _ _ (Same.refl _) ?_
    rw[en]
    exact New.int
   | _=>cases ek
 ·walk_at "go"
  rw[zj6 deeds _ ld.symm] at n1
  exact q _ _ s1 n1
def zd9 (K:Fg):Sp:=λvs H Q _=>∃ a b c:Int,vs=[.int a,.int b,.int c]∧Q (.bl (decide (a≤b) && decide (b≤c))) H
theorem zj7 {H:Hp}{Q:VK}{E:XK}{a b c:Int}(q:Q (.bl (decide (a≤b) && decide (b≤c))) H):zd9 K [.int a,.int b,.int c] H Q E:=⟨a,b,c,rfl,q⟩
theorem ziK {f:Addr}{fd:FuncData}(B:Bl K mg) {C:Nat→Addr}(Z:Zt K mg C)  (F:Fun K "between" "between" s_between f fd) (m:mg "between"=some (.ref f)):Fn P w K mg base "between" ["low","number","high"] 1 (zd9 K):=by
 refine Fn.of (k:=0) F ziH m (λ_ _ _ _ _ _ us hl=>match us,hl with | [_,_,_],_=>rfl) (λvs H Q E h=>?_) (λcdv A outer s H vs Q E hr h=>?_)
 ·first
  | (obtain⟨_,_,_,rfl,_⟩:=h;rfl)
 obtain⟨a,b,c,rfl,q⟩:=h
 refine⟨_,(zal (zaA (zkm zmK zmK (pv 0) (pv 1) (pv 2)))),?_⟩
 walk_at "go"
 cases h:decide (a≤b) with
 | false=>rw[h] at q;walk_at "go";exact q
 | true=>rw[h] at q;walk_at "go";exact q
def zdU (K:Fg) (C:Nat→Addr):Sp:=λvs H Q _=>∃ (p:Addr) (place:Int) (needs leaves:List (List Int)) (deeds:List D) (notes:List (List (List Int))),vs=[.ref p,.int place]∧zbM K (C 0) H p needs leaves deeds notes∧
 0≤place∧place≤(deeds.length:Int)∧deeds.length=notes.length∧deeds.length≤1000∧leaves.length≤1000∧(∀ l∈leaves,l.length=9)∧(∀ ls∈notes,ls.length≤1000)∧
 ∀ v H',Same H H'→New H H' (zaI (dueL leaves notes place)) v→Q v H'
theorem zj8 {f:Addr}{fd:FuncData}(B:Bl K mg) {C:Nat→Addr}(Z:Zt K mg C) (G_between:Fn P w K mg base "between" ["low","number","high"] 1 (zd9 K)) (G_copied_lines:Fn P w K mg base "copied_lines" ["lines"] 1 (zbU K)) (G_bare:Fn P w K mg base "bare" ["i"] 1 (zc3 K)) (G_turned:Fn P w K mg base "turned" ["line","eight"] 2 (zeZ K)) (F:Fun K "due_at" "due_at" s_due_at f fd) (m:mg "due_at"=some (.ref f)):Fn P w K mg base "due_at" ["craft","place"] 3 (zdU K C):=by
 refine Fn.of (k:=2) F zgP m (λ_ _ _ _ _ _ us hl=>match us,hl with | [_,_],_=>rfl) (λvs H Q E h=>?_) (λcdv A outer s H vs Q E hr h=>?_)
 ·first
  | (obtain⟨_,_,_,_,_,_,rfl,_⟩:=h;rfl)
 obtain⟨p,place,needs,leaves,deeds,notes,rfl,hC,h0,hn,hdn,h1000,hl1000,h9,hns,q⟩:=h
 obtain⟨ga,g_LEFT_AS_HANDS,hT⟩:=B.t_LEFT_AS_HANDS
 refine⟨_,(zah (zbB (zaR (k_eq K hr) (pv 1) (zaK (zep K) rfl B.len L2.boot_len (zdB (zeM K (pv 0) rfl) zaa)) (za1 _)) (zah (zaB (i:=2) zgP.nd rfl (Or.inr rfl) (zbf rfl (CompOk.m (sc0:=zaf s_due_at) (N:=["craft","place","eight"]) (N':=["craft","place","eight","i"]) (ms:=[false,false,false,true])) (zlj K (zjJ rfl g_LEFT_AS_HANDS)) (λ_ _ _ _ _=>(zas (i:=3) (ndS (N:=["craft","place","eight","i"])) rfl (Or.inl rfl))) (λ_ _ _ _ _=>zaJ) (λ_ _ _ _ _=>(zao G_bare hr rfl (zad (pv 3) zaa)))))
   (zal (zaA (zbf rfl (CompOk.m (sc0:=zaf s_due_at) (N:=["craft","place","eight"]) (N':=["craft","place","eight","line"]) (ms:=[false,false,false,true])) (za3 K (zeM K (pv 0) rfl)) (λ_ _ _ _ _=>(zas (i:=3) (ndS (N:=["craft","place","eight","line"])) rfl (Or.inl rfl))) (λ_ _ _ _ _=>zaJ) (λ_ _ _ _ _=>(zao G_turned hr rfl (zad (pv 3) (zad (pv 2) zaa)))))))) zaP)
   (zah (zbB (zdi (zao G_between hr rfl (zai zab (zad (pv 1) (zaU (zau zex (zaK (c_min rfl) rfl B.min L2.zkI (zaz (zaK (zep K) rfl B.len L2.boot_len (zdB (zeM K (pv 0) rfl) zaa)) (zaz (zaK (zep K) rfl B.len L2.boot_len (zdB (zeM K (pv 0) rfl) zaa)) zaa))) zab) zaa))))) (zal (zaA (zao G_copied_lines hr rfl (zaT (zav (k_ix K) (zeM K (pv 0) rfl) (pv 1) (λ_ _=>rfl)) zaa)))) zaP)
   (zal (zaA (zaH zaa))))),?_⟩
 obtain⟨dx,w1,w2,w3,w4,hp,r1,r2,r3,r4⟩:=hC
 unfold zaI Rep at r2
 unfold Rep at r3 r4
 obtain⟨b2,xs2,rfl,q2,z2⟩:=r2
 obtain⟨b3,xs3,rfl,q3,z3⟩:=r3
 obtain⟨b4,xs4,rfl,q4,z4⟩:=r4
 have m2:=z2.length
 have m3:=z3.length
 have m4:=z4.length
 rw[zlm] at m2 m4
 walk_at "go"
 refine⟨p,(C 0),dx,_,_,rfl,hp,Z.c_Craft,Z.n_Craft_deeds,zdS _ _ _ _,?_⟩
 walk_at "go"
 refine zd5 (.inl q3) ?_
 walk_at "go"
 unfold dueL at q
 refine ite2 (λe=>?_) (λe=>?_)
 ·have e':place=(xs3.length:Int):=of_decide_eq_true e
  rw[if_pos (by omega)] at q
  walk_at "go"
  refine⟨ga,rfl,⟨_,hT _⟩,?_⟩
  refine zaO (n:=8) (zhS (xs:=zgB.map V.int) (hT H)) (zbF.map nums) (by simp[zbF,zgB]) (by decide) (λj x d H1 R hj hd s1 hx hR=>?_) (λv H1 s1 n1=>?_)
  ·unfold zbF at hd
   rw[zgm] at hx
   obtain⟨i,hi,rfl⟩:=zme.mp hx
   rw[zgm,zgm,hi] at hd
   cases hd
   walk_at "go"
   refine zcn λv H2 s2 n2=>?_
   exact hR _ _ s2 n2
  have hE:Rep K H1 (.lst (zbF.map nums)) v:=New.rep n1
  obtain⟨ea,evs,rfl,ea0,ea1,ew⟩:=New.news n1
  walk_at "go"
  refine⟨p,(C 0),dx,_,_,rfl,s1 _ _ hp,Z.c_Craft,Z.n_Craft_leaves,zgM _ _ _ _,?_⟩
  refine⟨b2,rfl,⟨_,s1.seq q2⟩,?_⟩
  refine zaO (zaV (s1.seq q2)) ((leaves.map λl=>zaG l zbF).map nums) (by rw[zlm,zlm];omega) (zag (by omega)) (λj x d H2 R hj hd s2 hx hR=>?_) (λv H2 s2 n2=>?_)
  ·obtain⟨d2,hd2,hrx⟩:=Reps.get' z2 hx
   rw[zgm] at hd2
   obtain⟨l,hl,rfl⟩:=zme.mp hd2
   rw[zgm,zgm,hl] at hd
   cases hd
   obtain⟨xa,rfl,hxa⟩:=zbJ.mp (Rep.same (s1.trans s2) _ hrx)
   have l9:=h9 l (zmg hl)
   cases l with
   | nil=>simp at l9
   | cons c fs=>
    walk_at "go"
    refine⟨xa,ea,c,fs,zbF,rfl,hxa,Rep.same s2 _ hE,by simpa using l9,by simp[zbF,zgB],ziw,λi l w el _ n hn=>?_,λv' H3 s3 n3=>?_⟩
    ·rcases zix l (zmg el) n hn with z | z <;> subst z <;> exact .inl ⟨by decide,by decide⟩
    ·exact hR _ _ s3 n3
  exact q _ _ (s1.trans s2) (n2.back s1)
 ·have e':¬ place=(xs3.length:Int):=of_decide_eq_false (Bool.eq_false_iff.mpr e)
  rw[if_neg (by omega)] at q
  walk_at "go"
  refine⟨p,(C 0),dx,_,_,rfl,hp,Z.c_Craft,Z.n_Craft_deeds,zdS _ _ _ _,?_⟩
  walk_at "go"
  refine zd5 (.inl q3) ?_
  walk_at "go"
  refine⟨p,(C 0),dx,_,_,rfl,hp,Z.c_Craft,Z.n_Craft_notes,zh5 _ _ _ _,?_⟩
  walk_at "go"
  refine zd5 (.inl q4) ?_
  walk_at "go"
  refine i_min ?_
  walk_at "go"
  refine zj7 ?_
  rw[show (if ((xs4.length:Nat):Int)<((xs3.length:Nat):Int) then ((xs4.length:Nat):Int) else ((xs3.length:Nat):Int))=(xs3.length:Int) by rw[if_neg (by omega)],decide_eq_true h0,decide_eq_true (show place≤(xs3.length:Int) - 1 by omega)]
  show ∃ c,V.bl true=.bl c∧_
  walk_at "go"
  refine⟨p,(C 0),dx,_,_,rfl,hp,Z.c_Craft,Z.n_Craft_notes,zh5 _ _ _ _,?_⟩
  walk_at "go"
  have pl:place.toNat<notes.length:=by omega
  obtain⟨x,hx,hr4⟩:=z4.get (i:=place.toNat) (d:=zaI notes[place.toNat]) (by simp[pl])
  have ei:atI xs4 place=some x:=by
   have:=zap hx
   rwa [show ((place.toNat:Nat):Int)=place by omega] at this
  obtain⟨b,rfl⟩:∃ b,x=.ref b:=by unfold zaI Rep at hr4;obtain⟨a,_,e,_⟩:=hr4;exact⟨a,e⟩
  refine zbE q4 ei ?_
  walk_at "go"
  refine⟨b,_,rfl,hr4,hns _ (List.getElem_mem pl),λv H1 s1 n1=>?_⟩
  refine q _ _ s1 ?_
  rw[show notes.getD place.toNat []=notes[place.toNat] by simp[List.getD,pl]]
  exact n1
def zbx (K:Fg):Sp:=λvs H Q _=>∃ (d:Addr) (kvs:List (Key × V)) (ch:Nat→Option (List Int)),vs=[.ref d]∧H d=some (.dK kvs)∧
 (∀ i:Nat,i<8→(ch i=none∧valV kvs (.inl (0+(i:Int)))=none)∨∃ a l,ch i=some l∧valV kvs (.inl (0+(i:Int)))=some (.ref a)∧l.length=9∧H a=some (.lst (l.map V.int)))∧
 ∀ a H',Same H H'→H a=none→Ls H' a (zaC ch)→Q (.ref a) H'
theorem zgU (i:Int):(zaq i).length=9:=by simp[zaq]
theorem zaE (ch:Nat→Option (List Int)):(zaC ch).length=8:=by simp[zaC]
theorem ziL {i n:Int}(h:n∈zaq i):n=0∨n=1:=by
 unfold zaq at h
 rcases List.mem_cons.mp h with h | h
 ·exact .inl h
 ·obtain⟨k,_,rfl⟩:=zmm.mp h
  split
  ·exact .inr rfl
  ·exact .inl rfl
theorem zaQ (i:Int):Sm (zaq i):=λn hn=>by rcases ziL hn with z | z <;> subst z <;> exact⟨by decide,by decide⟩
theorem zbK {eight:List (List Int)}{ws:List Int}(h:∀ l∈eight,Sm l):ziG eight ws:=λi l w e _ n hn=>.inl (h l (zmg e) n hn)
theorem zaN {ch:Nat→Option (List Int)}{P:List Int→Prop}(hb:∀ i:Int,P (zaq i)) (hc:∀ i l,ch i=some l→P l):∀ l∈zaC ch,P l:=λl hl=>by
 obtain⟨i,_,rfl⟩:=zmm.mp hl
 cases e:ch i with
 | none=>exact hb _
 | some l=>exact hc i l e
theorem zc5 {k:Int}{l:List Int}{P:List Int→Prop}(h:P l):∀ i m,ch1 k l i=some m→P m:=λi m e=>by
 unfold ch1 at e
 split at e
 ·cases e;exact h
 ·cases e
theorem zj9 {H:Hp}{k:Int}{l:List Int}{a:Addr}(h9:l.length=9) (ha:H a=some (.lst (l.map V.int))):∀ i:Nat,i<8→(ch1 k l i=none∧valV (zbz [] [(Sum.inl k,V.ref a)]) (.inl (0+(i:Int)))=none)∨∃ b m,ch1 k l i=some m∧valV (zbz [] [(Sum.inl k,V.ref a)]) (.inl (0+(i:Int)))=some (.ref b)∧m.length=9∧H b=some (.lst (m.map V.int)):=λi _=>by
 have e:valV (zbz [] [((Sum.inl k:Key),V.ref a)]) (.inl (0+(i:Int)))=if (Sum.inl (0+(i:Int)):Key)=Sum.inl k then some (.ref a) else none:=by
  show valV (putK [] _ _) _=_
  rw[zdH];rfl
 by_cases z:k=0+(i:Int)
 ·refine .inr ⟨a,l,by unfold ch1;rw[if_pos z],?_,h9,ha⟩
  rw[e,if_pos (by rw[z])]
 ·refine .inl ⟨by unfold ch1;rw[if_neg z],?_⟩
  rw[e,if_neg (by intro w;injection w with w;exact z w.symm)]
theorem zea {k0 k1:Int}{l0 l1:List Int}{P:List Int→Prop}(h0:P l0) (h1:P l1):∀ i m,ch2 k0 l0 k1 l1 i=some m→P m:=λi m e=>by
 unfold ch2 at e
 split at e
 ·cases e;exact h1
 split at e
 ·cases e;exact h0
 ·cases e
theorem zlv {H:Hp}{k0 k1:Int}{l0 l1:List Int}{a0 a1:Addr}(h90:l0.length=9) (h91:l1.length=9) (ha0:H a0=some (.lst (l0.map V.int))) (ha1:H a1=some (.lst (l1.map V.int))):∀ i:Nat,i<8→(ch2 k0 l0 k1 l1 i=none∧valV (zbz [] [(Sum.inl k0,V.ref a0),(Sum.inl k1,V.ref a1)]) (.inl (0+(i:Int)))=none)∨∃ b m,ch2 k0 l0 k1 l1 i=some m∧valV (zbz [] [(Sum.inl k0,V.ref a0),(Sum.inl k1,V.ref a1)]) (.inl (0+(i:Int)))=some (.ref b)∧m.length=9∧H b=some (.lst (m.map V.int)):=λi _=>by
 have e:valV (zbz [] [((Sum.inl k0:Key),V.ref a0),(Sum.inl k1,V.ref a1)]) (.inl (0+(i:Int)))=if (Sum.inl (0+(i:Int)):Key)=Sum.inl k1 then some (.ref a1) else if (Sum.inl (0+(i:Int)):Key)=Sum.inl k0 then some (.ref a0) else none:=by
  show valV (putK (putK [] _ _) _ _) _=_
  rw[zdH,zdH];rfl
 by_cases z1:k1=0+(i:Int)
 ·refine .inr ⟨a1,l1,by unfold ch2;rw[if_pos z1],?_,h91,ha1⟩
  rw[e,if_pos (by rw[z1])]
 ·have n1:¬ (Sum.inl (0+(i:Int)):Key)=Sum.inl k1:=by intro w;injection w with w;exact z1 w.symm
  by_cases z0:k0=0+(i:Int)
  ·refine .inr ⟨a0,l0,by unfold ch2;rw[if_neg z1,if_pos z0],?_,h90,ha0⟩
   rw[e,if_neg n1,if_pos (by rw[z0])]
  ·refine .inl ⟨by unfold ch2;rw[if_neg z1,if_neg z0],?_⟩
   rw[e,if_neg n1,if_neg (by intro w;injection w with w;exact z0 w.symm)]
theorem zfV {f:Addr}{fd:FuncData}(B:Bl K mg) {C:Nat→Addr}(Z:Zt K mg C) (G_bare:Fn P w K mg base "bare" ["i"] 1 (zc3 K)) (F:Fun K "eight_with" "eight_with" s_eight_with f fd) (m:mg "eight_with"=some (.ref f)):Fn P w K mg base "eight_with" ["changes"] 2 (zbx K):=by
 refine Fn.of (k:=1) F zfT m (λ_ _ _ _ _ _ us hl=>match us,hl with | [_],_=>rfl) (λvs H Q E h=>?_) (λcdv A outer s H vs Q E hr h=>?_)
 ·first
  | (obtain⟨_,_,_,rfl,_⟩:=h;rfl)
 obtain⟨d,kvs,ch,rfl,hd,hch,q⟩:=h
 refine⟨_,(zal (zaA (zbf rfl (CompOk.m (sc0:=zaf s_eight_with) (N:=["changes"]) (N':=["changes","i"]) (ms:=[false,true])) (zbd rfl B.range (zad (zbC rfl B.c_FACTORS) zaa)) (λ_ _ _ _ _=>(zas (i:=1) (ndS (N:=["changes","i"])) rfl (Or.inl rfl))) (λ_ _ _ _ _=>zaJ) (λ_ _ _ _ _=>(zks (hr_u hr) (pv 0) (pv 1) (zao G_bare hr rfl (zad (pv 1) zaa)) ⟨rfl,rfl,rfl,rfl⟩))))),?_⟩
 have h9:∀ l∈zaC ch,l.length=9:=λl hl=>by
  obtain⟨i,hi,rfl⟩:=zmm.mp hl
  rcases hch i (List.mem_range.mp hi) with ⟨e,_⟩ | ⟨a,l,e,_,hl9,_⟩
  ·rw[e];exact zgU _
  ·rw[e];exact hl9
 walk_at "go"
 refine zbQ (by decide) (by decide) ?_
 refine zl9 (n:=8) zbo (zaC ch) (zaE ch) (by decide) h9 (λi x l H1 R hi hl s1 hx hR=>?_) (λa H1 s1 ha hL=>?_)
 ·subst hx
  have el:l=(ch i).getD (zaq (0+(i:Int))):=by
   unfold zaC at hl
   rw[zgm,List.getElem?_range hi] at hl
   cases hl;rfl
  walk_at "go"
  refine⟨d,rfl,.inl ⟨kvs,.inl (s1 _ _ hd)⟩,?_⟩
  walk_at "go"
  refine zcn λv H2 s2 n2=>?_
  obtain⟨b,rfl,b0,b1⟩:=New.ints_iff.mp n2
  have hg:DGet H2 d (.int (0+(i:Int))) (valV kvs (.inl (0+(i:Int)))):=DGet.k (k:=.inl (0+(i:Int))) (s2 _ _ (s1 _ _ hd))
  refine⟨_,hg,?_⟩
  rcases hch i hi with ⟨e,ev⟩ | ⟨a,l',e,ev,_,ha⟩
  ·rw[ev]
   exact hR b _ s2 (by rw[el,e];exact b1)
  ·rw[ev]
   exact hR a _ s2 (by rw[el,e];exact s2 _ _ (s1 _ _ ha))
 ·walk_at "go"
  exact q a H1 s1 ha hL
def zbu (K:Fg):Sp:=λvs H Q _=>∃ (a b:Addr) (goals hyps:List (List Int)),vs=[.ref a,.ref b]∧Rep K H (zaI goals) (.ref a)∧Rep K H (zaI hyps) (.ref b)∧goals.length≤1000∧hyps.length≤1000∧
 ∀ v H',Same H H'→New H H' (.lst (goals.map λg=>zcP g hyps)) v→Q v H'
theorem zgV {f:Addr}{fd:FuncData}(B:Bl K mg) {C:Nat→Addr}(Z:Zt K mg C) (G_copied_lines:Fn P w K mg base "copied_lines" ["lines"] 1 (zbU K)) (F:Fun K "each_from" "each_from" s_each_from f fd) (m:mg "each_from"=some (.ref f)):Fn P w K mg base "each_from" ["goals","hypotheses"] 2 (zbu K):=by
 refine Fn.of (k:=1) F zgQ m (λ_ _ _ _ _ _ us hl=>match us,hl with | [_,_],_=>rfl) (λvs H Q E h=>?_) (λcdv A outer s H vs Q E hr h=>?_)
 ·first
  | (obtain⟨_,_,_,_,rfl,_⟩:=h;rfl)
 obtain⟨a,b,goals,hyps,rfl,hA,hB,hg,hh,q⟩:=h
 refine⟨_,(zal (zaA (zbf rfl (CompOk.m (sc0:=zaf s_each_from) (N:=["goals","hypotheses"]) (N':=["goals","hypotheses","goal"]) (ms:=[false,false,true])) (za3 K (pv 0)) (λ_ _ _ _ _=>(zas (i:=2) (ndS (N:=["goals","hypotheses","goal"])) rfl (Or.inl rfl))) (λ_ _ _ _ _=>zaJ) (λ_ _ _ _ _=>(zbg (zaz (zcR (zjE K) rfl B.list L2.zca (zad (pv 2) zaa)) (zaz (zao G_copied_lines hr rfl (zad (pv 1) zaa)) zaa))))))),?_⟩
 unfold zaI Rep at hA
 obtain⟨_,xs,e,hA,hx⟩:=hA
 cases e
 have lx:=hx.length
 rw[zlm] at lx
 walk_at "go"
 refine⟨a,rfl,⟨_,hA⟩,?_⟩
 refine zaO (zaV hA) (goals.map λg=>zcP g hyps) (by simp[lx]) (zag (by omega)) (λi x d H1 R hi hd s1 hx' hR=>?_) (λv H1 s1 n1=>?_)
 ·obtain⟨d2,hd2,hrx⟩:=hx.get' hx'
  rw[zgm] at hd2
  obtain⟨l,hl',rfl⟩:=zme.mp hd2
  rw[zgm,hl'] at hd
  cases hd
  obtain⟨xa,rfl,hxa⟩:=zbJ.mp (Rep.same s1 _ hrx)
  walk_at "go"
  refine zfH (.inl hxa) λp hp=>?_
  have t1:=zae hp (.lst (l.map V.int))
  walk_at "go"
  refine⟨b,hyps,rfl,Rep.same (s1.trans t1) _ hB,hh,λv H2 s2 n2=>?_⟩
  walk_at "go"
  refine⟨zag (by simp),λT hT=>?_⟩
  have t3:=zae hT (.tup [.ref p,v])
  obtain⟨fp,f1,f2,f3⟩:=n2
  have pn:p∉fp:=λm=>by have:=f3 p m;rw[zac] at this;cases this
  refine hR _ _ (t1.trans (s2.trans t3)) (New.tup (fp:=p::fp) (zaj.cany (f:=[p]) (fp:=fp) (RepF.line (t3 _ _ (s2 _ _ zac))) ?_) (List.nodup_cons.mpr ⟨pn,f2⟩) (λc hc=>?_) zac)
  ·have:=zaj.cany (RepF.sq t3.sq _ f1) (zaj.nil (H:=upd H2 T (.tup [.ref p,v])))
   rw[List.append_nil] at this
   exact this
  ·rcases List.mem_cons.mp hc with z | z
   ·rw[z];exact hp
   ·exact t1.free (f3 c z)
 ·walk_at "go"
  exact q _ _ s1 n1
def zby (K:Fg):Sp:=λvs H Q _=>∃ (a b:Addr) (ls eight:List (List Int)),vs=[.ref a,.ref b]∧Rep K H (zaI ls) (.ref a)∧Rep K H (.lst (eight.map nums)) (.ref b)∧ls.length≤1000∧(∀ l∈ls,l.length=9∧ziG eight l.tail)∧eight.length=8∧(∀ l∈eight,l.length=9)∧
 ∀ v H',Same H H'→New H H' (zaI (ls.map λl=>zaG l eight)) v→Q v H'
theorem zfW {f:Addr}{fd:FuncData}(B:Bl K mg) {C:Nat→Addr}(Z:Zt K mg C) (G_turned:Fn P w K mg base "turned" ["line","eight"] 2 (zeZ K)) (F:Fun K "all_turned" "all_turned" s_all_turned f fd) (m:mg "all_turned"=some (.ref f)):Fn P w K mg base "all_turned" ["lines","eight"] 3 (zby K):=by
 refine Fn.of (k:=2) F zfS m (λ_ _ _ _ _ _ us hl=>match us,hl with | [_,_],_=>rfl) (λvs H Q E h=>?_) (λcdv A outer s H vs Q E hr h=>?_)
 ·first
  | (obtain⟨_,_,_,_,rfl,_⟩:=h;rfl)
 obtain⟨a,b,ls,eight,rfl,hA,hB,hl,hk,l8,e9,q⟩:=h
 refine⟨_,(zal (zaA (zbf rfl (CompOk.m (sc0:=zaf s_all_turned) (N:=["lines","eight"]) (N':=["lines","eight","line"]) (ms:=[false,false,true])) (za3 K (pv 0)) (λ_ _ _ _ _=>(zas (i:=2) (ndS (N:=["lines","eight","line"])) rfl (Or.inl rfl))) (λ_ _ _ _ _=>zaJ) (λ_ _ _ _ _=>(zao G_turned hr rfl (zad (pv 2) (zad (pv 1) zaa))))))),?_⟩
 unfold zaI Rep at hA
 obtain⟨_,xs,e,hA,hx⟩:=hA
 cases e
 have lx:=hx.length
 rw[zlm] at lx
 walk_at "go"
 refine⟨a,rfl,⟨_,hA⟩,?_⟩
 refine zaO (zaV hA) ((ls.map λl=>zaG l eight).map nums) (by simp[lx]) (zag (by omega)) (λi x d H1 R hi hd s1 hx' hR=>?_) (λv H1 s1 n1=>?_)
 ·obtain⟨d2,hd2,hrx⟩:=hx.get' hx'
  rw[zgm] at hd2
  obtain⟨l,hl',rfl⟩:=zme.mp hd2
  rw[zgm,zgm,hl'] at hd
  cases hd
  obtain⟨xa,rfl,hxa⟩:=zbJ.mp (Rep.same s1 _ hrx)
  obtain⟨l9,ok⟩:=hk l (zmg hl')
  obtain⟨c,fs,rfl⟩:∃ c fs,l=c::fs:=by
   cases l with
   | nil=>simp at l9
   | cons c fs=>exact⟨c,fs,rfl⟩
  walk_at "go"
  refine⟨xa,b,c,fs,eight,rfl,hxa,Rep.same s1 _ hB,by simpa using l9,l8,e9,ok,λv H2 s2 n2=>?_⟩
  exact hR _ _ s2 n2
 ·walk_at "go"
  exact q _ _ s1 n1
abbrev zlw:=kL
def zbX (K:Fg):Sp:=λvs H Q _=>∃ i:Int,vs=[.int i]∧∀ v H',Same H H'→New H H' (nums (zlw i)) v→Q v H'
theorem zeb {H:Hp}{Q:VK}{E:XK}{i:Int}(q:∀ v H',Same H H'→New H H' (nums (zlw i)) v→Q v H'):zbX K [.int i] H Q E:=⟨i,rfl,q⟩
theorem zht {f:Addr}{fd:FuncData}(B:Bl K mg) {C:Nat→Addr}(Z:Zt K mg C)  (F:Fun K "constant" "constant" s_constant f fd) (m:mg "constant"=some (.ref f)):Fn P w K mg base "constant" ["number"] 1 (zbX K):=by
 refine Fn.of (k:=0) F zhr m (λ_ _ _ _ _ _ us hl=>match us,hl with | [_],_=>rfl) (λvs H Q E h=>?_) (λcdv A outer s H vs Q E hr h=>?_)
 ·first
  | (obtain⟨_,rfl,_⟩:=h;rfl)
 obtain⟨i,rfl,q⟩:=h
 refine⟨_,(zal (zaA (zau (zaF K) (zaH (zad (pv 0) zaa)) (zau zbi (zaH (zai zab zaa)) (zbC rfl B.c_FACTORS))))),?_⟩
 walk_at "go"
 refine⟨zag (by simp),λp hp=>?_⟩
 walk_at "go"
 refine⟨zag (by simp),λp2 hp2=>?_⟩
 walk_at "go"
 refine .inr ⟨p2,8,[.int 0],rfl,rfl,zac,by decide,by decide,by decide,λp3 hp3=>?_⟩
 have t1:=zae hp (.lst [.int i])
 have t2:=zae hp2 (.lst [.int 0])
 have t3:=zae hp3 (.lst (List.replicate (8:Int).toNat [V.int 0]).flatten)
 walk_at "go"
 refine zbk (t3 _ _ (t2 _ _ zac)) zac (zag (by show 1+8≤1000;decide)) λp4 hp4=>?_
 have s:=t1.trans (t2.trans t3)
 exact q _ _ (s.trans (zae hp4 _)) (New.ints_iff.mpr ⟨p4,rfl,s.free hp4,zac⟩)
theorem sm_k {n:Int}(h:-(2 ^ 64)<n∧n<2 ^ 64):Sm (kL n):=λm hm=>by
 unfold kL at hm
 rcases List.mem_cons.mp hm with z | z
 ·rw[z];exact h
 ·rw[(List.mem_replicate.mp z).2];exact⟨by decide,by decide⟩
theorem zfX {P:List Int→Prop}(h4:P (zaq 4)) (h5:P (zaq 5)) (hk:P (kL 0)):∀ i m,ch4 i=some m→P m:=λi m e=>by
 unfold ch4 at e
 split at e
 ·cases e;exact h4
 split at e
 ·cases e;exact h5
 split at e
 ·cases e;exact hk
 split at e
 ·cases e;exact hk
 ·cases e
theorem znS {H:Hp}{a b c d:Addr}(ha:H a=some (.lst ((zaq 4).map V.int))) (hb:H b=some (.lst ((zaq 5).map V.int))) (hc:H c=some (.lst ((kL 0).map V.int))) (hd:H d=some (.lst ((kL 0).map V.int))):∀ i:Nat,i<8→(ch4 i=none∧valV (zbz [] [(Sum.inl 0,V.ref a),(Sum.inl 1,V.ref b),(Sum.inl 2,V.ref c),(Sum.inl 3,V.ref d)]) (.inl (0+(i:Int)))=none)∨∃ x m,ch4 i=some m∧valV (zbz [] [(Sum.inl 0,V.ref a),(Sum.inl 1,V.ref b),(Sum.inl 2,V.ref c),(Sum.inl 3,V.ref d)]) (.inl (0+(i:Int)))=some (.ref x)∧m.length=9∧H x=some (.lst (m.map V.int)):=λi hi=>by
 have e:∀ k:Key,valV (zbz [] [((Sum.inl 0:Key),V.ref a),(Sum.inl 1,V.ref b),(Sum.inl 2,V.ref c),(Sum.inl 3,V.ref d)]) k=if k=Sum.inl 3 then some (.ref d) else if k=Sum.inl 2 then some (.ref c) else if k=Sum.inl 1 then some (.ref b) else if k=Sum.inl 0 then some (.ref a) else none:=λk=>by
  simp only[zbz,List.foldl_cons,List.foldl_nil,zdH]
  rfl
 rw[e]
 match i,hi with
 | 0,_=>exact .inr ⟨a,_,rfl,rfl,zak 4,ha⟩
 | 1,_=>exact .inr ⟨b,_,rfl,rfl,zak 5,hb⟩
 | 2,_=>exact .inr ⟨c,_,rfl,rfl,zaX 0,hc⟩
 | 3,_=>exact .inr ⟨d,_,rfl,rfl,zaX 0,hd⟩
 | 4,_=>exact .inl ⟨rfl,rfl⟩
 | 5,_=>exact .inl ⟨rfl,rfl⟩
 | 6,_=>exact .inl ⟨rfl,rfl⟩
 | 7,_=>exact .inl ⟨rfl,rfl⟩
def zc6 (K:Fg) (C:Nat→Addr):Sp:=λvs H Q _=>∃ (p:Addr) (needs leaves:List (List Int)) (deeds:List D) (notes:List (List (List Int))),vs=[.ref p]∧zbM K (C 0) H p needs leaves deeds notes∧Good needs leaves deeds.length notes∧
 ∀ v H',Same H H'→New H H' (.lst (zgK needs leaves notes)) v→Q v H'
theorem ze0 {f:Addr}{fd:FuncData}(B:Bl K mg) {C:Nat→Addr}(Z:Zt K mg C) (G_eight_with:Fn P w K mg base "eight_with" ["changes"] 2 (zbx K)) (G_each_from:Fn P w K mg base "each_from" ["goals","hypotheses"] 2 (zbu K)) (G_all_turned:Fn P w K mg base "all_turned" ["lines","eight"] 3 (zby K)) (G_bare:Fn P w K mg base "bare" ["i"] 1 (zc3 K)) (G_constant:Fn P w K mg base "constant" ["number"] 1 (zbX K)) (G_due_at:Fn P w K mg base "due_at" ["craft","place"] 3 (zdU K C)) (F:Fun K "first_duties" "first_duties" s_first_duties f fd) (m:mg "first_duties"=some (.ref f)):Fn P w K mg base "first_duties" ["craft"] 4 (zc6 K C):=by
 refine Fn.of (k:=3) F zc1 m (λ_ _ _ _ _ _ us hl=>match us,hl with | [_],_=>rfl) (λvs H Q E h=>?_) (λcdv A outer s H vs Q E hr h=>?_)
 ·first
  | (obtain⟨_,_,_,_,_,rfl,_⟩:=h;rfl)
 obtain⟨p,needs,leaves,deeds,notes,rfl,hC,hg,q⟩:=h
 refine⟨_,(zah (zaB (i:=1) zc1.nd rfl (Or.inl rfl) (zao G_eight_with hr rfl (zbq (zd3 (zbP zab (zao G_bare hr rfl (zad (zbC rfl B.c_ASKED_0) zaa)) (zbP zab (zao G_bare hr rfl (zad (zbC rfl B.c_ASKED_1) zaa)) (zbP zab (zao G_constant hr rfl (zai zab zaa)) (zbP zab (zao G_constant hr rfl (zai zab zaa)) zd2)))) rfl rfl (by simp) (by simp)) zaa)))
   (zal (zaA (zao G_each_from hr rfl (zaz (zao G_all_turned hr rfl (zaz (zao G_due_at hr rfl (zad (pv 0) (zai zab zaa))) (zad (pv 1) zaa))) (zdB (zeM K (pv 0) rfl) zaa)))))),?_⟩
 walk_at "q"
 walk_at "gs"
 refine zfo λdp hdp=>?_
 have u0:=zae hdp (.dK [])
 walk_at "gs"
 refine zcn λv H1 s1 n1=>?_
 obtain⟨b1,rfl,b10,b11⟩:=New.ints_iff.mp n1
 walk_at "gs"
 refine zcn λv H2 s2 n2=>?_
 obtain⟨b2,rfl,b20,b21⟩:=New.ints_iff.mp n2
 walk_at "gs"
 refine zeb λv H3 s3 n3=>?_
 obtain⟨b3,rfl,b30,b31⟩:=New.ints_iff.mp n3
 walk_at "gs"
 refine zeb λv H4 s4 n4=>?_
 obtain⟨b4,rfl,b40,b41⟩:=New.ints_iff.mp n4
 walk_at "gs"
 have d1:H1 dp=some (.dK []):=s1 _ _ zac
 have d4:H4 dp=some (.dK []):=s4 _ _ (s3 _ _ (s2 _ _ d1))
 have ne:∀ {b:Addr}{l:List Int},H4 b=some (.lst (l.map V.int))→b≠dp:=λe z=>by rw[z,d4] at e;cases e
 have f1:=s4 _ _ (s3 _ _ (s2 _ _ b11))
 have f2:=s4 _ _ (s3 _ _ b21)
 have f3:=s4 _ _ b31
 refine⟨d4,[(.inl 0,.ref b1),(.inl 1,.ref b2),(.inl 2,.ref b3),(.inl 3,.ref b4)],rfl,by simp,?_⟩
 have s05:Same H (upd H4 dp (.dK (zbz [] [(.inl 0,.ref b1),(.inl 1,.ref b2),(.inl 2,.ref b3),(.inl 3,.ref b4)]))):=(u0.trans (s1.trans (s2.trans (s3.trans s4)))).put hdp
 walk_at "gs"
 refine⟨dp,_,ch4,rfl,zac,znS (by rw[zaw (ne f1)];exact f1) (by rw[zaw (ne f2)];exact f2) (by rw[zaw (ne f3)];exact f3) (by rw[zaw (ne b41)];exact b41),λea H6 s6 ea0 hE=>?_⟩
 have s06:=s05.trans s6
 have m9:∀ l∈zaC ch4,l.length=9:=zaN (λi=>zak i) (zfX (zak 4) (zak 5) (zaX 0))
 have msm:∀ l∈zaC ch4,Sm l:=zaN (λi=>zaQ i) (zfX (zaQ 4) (zaQ 5) (sm_k ⟨by decide,by decide⟩))
 have gd:=hg.due 0
 walk_at "gs"
 refine⟨p,0,needs,leaves,deeds,notes,rfl,hC.same s06,by decide,by omega,hg.dn,by have:=hg.d;omega,by have:=hg.l;omega,hg.l9,λls hl=>by have:=(hg.o ls hl).1;omega,λv H7 s7 n7=>?_⟩
 have rv:=New.rep (K:=K) n7
 obtain⟨da,rfl⟩:∃ b,v=.ref b:=by obtain⟨b,_,e,_⟩:=New.news n7;exact⟨b,e⟩
 walk_at "gs"
 refine⟨da,ea,_,zaC ch4,rfl,rv,(hE.same s7).rep,by omega,λl hl=>⟨gd.2 l hl,zbK msm⟩,zaE _,m9,λv H8 s8 n8=>?_⟩
 have rv8:=New.rep (K:=K) n8
 obtain⟨ga,rfl⟩:∃ b,v=.ref b:=by obtain⟨b,_,e,_⟩:=New.news n8;exact⟨b,e⟩
 have s08:=s06.trans (s7.trans s8)
 obtain⟨dx,w1,w2,w3,w4,hp,r1,r2,r3,r4⟩:=hC.same s08
 obtain⟨y1,rfl⟩:∃ b,w1=.ref b:=by unfold zaI Rep at r1;obtain⟨a,_,e,_⟩:=r1;exact⟨a,e⟩
 walk_at "gs"
 refine⟨p,(C 0),dx,_,_,rfl,hp,Z.c_Craft,Z.n_Craft_needs,zh4 _ _ _ _,?_⟩
 walk_at "gs"
 refine⟨ga,y1,_,needs,rfl,rv8,r1,by simp;omega,by have:=hg.n;omega,λv H9 s9 n9=>?_⟩
 exact q _ _ (s08.trans s9) (n9.back s08)
--LEN (obtain ⟨_, _, _, _, _, _, _, _, _, _, _, _, _, _, _, _, _, rfl, _⟩ := h; rfl)
def zdp (K:Fg) (C:Nat→Addr):Sp:=λvs H Q _=>∃ (t na aa o g2 t2:Addr) (m g0 g1 t0 t1:Int) (notes after needs leaves:List (List Int)) (deeds:List D) (ns:List (List (List Int))),vs=[.ref t,.ref na,.ref aa,.ref o]∧SqT K H t [.str "call",.int m,.ref g2,.ref t2]∧SqT K H g2 [.int g0,.int g1]∧SqT K H t2 [.int t0,.int t1]∧Ls H na notes∧Rep K H (zaI after) (.ref aa)∧notes.length≤100∧after.length≤100∧(∀ l∈notes,l.length=9)∧(∀ l∈after,l.length=9)∧zbM K (C 0) H o needs leaves deeds ns∧Good needs leaves deeds.length ns∧
 ∀ v H',Same H H'→New H H' (.lst (((needs.map λl=>zaG l (zaC (ch2 4 (zaq g0) 5 (zaq g1)))).map λg=>zcP g notes)++(after.map λl=>zaG l (zaC (ch2 t0 (zaq 6) t1 (zaq 7)))).map λg=>zcP g (notes++leaves.map λl=>zaG l (zaC (ch2 4 (zaq g0) 5 (zaq g1)))))) v→Q v H'
theorem zfd {f:Addr}{fd:FuncData}(B:Bl K mg) {C:Nat→Addr}(Z:Zt K mg C) (G_eight_with:Fn P w K mg base "eight_with" ["changes"] 2 (zbx K)) (G_each_from:Fn P w K mg base "each_from" ["goals","hypotheses"] 2 (zbu K)) (G_all_turned:Fn P w K mg base "all_turned" ["lines","eight"] 3 (zby K)) (G_bare:Fn P w K mg base "bare" ["i"] 1 (zc3 K)) (F:Fun K "call_duties" "call_duties" s_call_duties f fd) (m:mg "call_duties"=some (.ref f)):Fn P w K mg base "call_duties" ["deed","notes","after","other"] 4 (zdp K C):=by
 refine Fn.of (k:=3) F zbp m (λ_ _ _ _ _ _ us hl=>match us,hl with | [_,_,_,_],_=>rfl) (λvs H Q E h=>?_) (λcdv A outer s H vs Q E hr h=>?_)
 ·first
  | (obtain⟨_,_,_,_,_,_,_,_,_,_,_,_,_,_,_,_,_,rfl,_⟩:=h;rfl)
  | (obtain⟨rfl,_⟩:=h;rfl)
  | (obtain⟨_,rfl,_⟩:=h;rfl)
  | (obtain⟨_,_,rfl,_⟩:=h;rfl)
  | (obtain⟨_,_,_,rfl,_⟩:=h;rfl)
  | (obtain⟨_,_,_,_,rfl,_⟩:=h;rfl)
  | (obtain⟨_,_,_,_,_,rfl,_⟩:=h;rfl)
  | (obtain⟨_,_,_,_,_,_,rfl,_⟩:=h;rfl)
  | (obtain⟨_,_,_,_,_,_,_,rfl,_⟩:=h;rfl)
  | (obtain⟨_,_,_,_,_,_,_,_,rfl,_⟩:=h;rfl)
  | (obtain⟨_,_,_,_,_,_,_,_,_,rfl,_⟩:=h;rfl)
  | (obtain⟨_,_,_,_,_,_,_,_,_,_,rfl,_⟩:=h;rfl)
  | (obtain⟨_,_,_,_,_,_,_,_,_,_,_,rfl,_⟩:=h;rfl)
  | (obtain⟨_,_,_,_,_,_,_,_,_,_,_,_,rfl,_⟩:=h;rfl)
  | (obtain⟨_,_,_,_,_,_,_,_,_,_,_,_,_,rfl,_⟩:=h;rfl)
  | (obtain⟨_,_,_,_,_,_,_,_,_,_,_,_,_,_,rfl,_⟩:=h;rfl)
  | (obtain⟨_,_,_,_,_,_,_,_,_,_,_,_,_,_,_,rfl,_⟩:=h;rfl)
  | (obtain⟨_,_,_,_,_,_,_,_,_,_,_,_,_,_,_,_,rfl,_⟩:=h;rfl)
 obtain⟨t,na,aa,o,g2,t2,m,g0,g1,t0,t1,notes,after,needs,leaves,deeds,ns,rfl,hT,hG,hK,hN,hA,ln,lf,o9,a9,hC,hg,q⟩:=h
 refine⟨_,(zah (zaB (i:=4) zbp.nd rfl (Or.inl rfl) (zav (k_ix K) (pv 0) zab (λ_ _=>rfl)))
   (zah (zaB (i:=5) zbp.nd rfl (Or.inl rfl) (zav (k_ix K) (pv 0) zab (λ_ _=>rfl)))
   (zah (zaB (i:=6) zbp.nd rfl (Or.inl rfl) (zao G_eight_with hr rfl (zbq (zd3 (zbP (zbC rfl B.c_ASKED_0) (zao G_bare hr rfl (zaT (zav (k_ix K) (pv 4) zab (λ_ _=>rfl)) zaa)) (zbP (zbC rfl B.c_ASKED_1) (zao G_bare hr rfl (zaT (zav (k_ix K) (pv 4) zab (λ_ _=>rfl)) zaa)) zd2)) rfl rfl (by simp) (by simp)) zaa)))
   (zah (zaB (i:=7) zbp.nd rfl (Or.inl rfl) (zao G_eight_with hr rfl (zbq (zd3 (zbP (zav (k_ix K) (pv 5) zab (λ_ _=>rfl)) (zao G_bare hr rfl (zad (zbC rfl B.c_NEW_0) zaa)) (zbP (zav (k_ix K) (pv 5) zab (λ_ _=>rfl)) (zao G_bare hr rfl (zad (zbC rfl B.c_NEW_1) zaa)) zd2)) rfl rfl (by simp) (by simp)) zaa)))
   (zah (zaB (i:=8) zbp.nd rfl (Or.inl rfl) (zao G_each_from hr rfl (zaz (zao G_all_turned hr rfl (zdB (zeM K (pv 3) rfl) (zad (pv 6) zaa))) (zad (pv 1) zaa))))
   (zal (zaA (zau (zaF K) (pv 8) (zao G_each_from hr rfl (zaz (zao G_all_turned hr rfl (zad (pv 2) (zad (pv 7) zaa))) (zaU (zau (zaF K) (pv 1) (zao G_all_turned hr rfl (zdB (zeM K (pv 3) rfl) (zad (pv 6) zaa)))) zaa))))))))))),?_⟩
 walk_at "q"
 walk_at "gs"
 refine zax hT (v:=.ref g2) (zap (j:=2) rfl) ?_
 walk_at "gs"
 walk_at "q"
 walk_at "gs"
 refine zax hT (v:=.ref t2) (zap (j:=3) rfl) ?_
 walk_at "gs"
 walk_at "q"
 walk_at "gs"
 refine zfo λdp hdp=>?_
 have u0:=zae hdp (.dK [])
 walk_at "gs"
 refine zax (u0.tup hG) (v:=.int g0) zar ?_
 walk_at "gs"
 refine zcn λv H1 s1 n1=>?_
 obtain⟨b1,rfl,b10,b11⟩:=New.ints_iff.mp n1
 walk_at "gs"
 refine zax ((u0.trans s1).tup hG) (v:=.int g1) (zap (j:=1) rfl) ?_
 walk_at "gs"
 refine zcn λv H2 s2 n2=>?_
 obtain⟨b2,rfl,b20,b21⟩:=New.ints_iff.mp n2
 walk_at "gs"
 have d2:H2 dp=some (.dK []):=s2 _ _ (s1 _ _ zac)
 have ne:∀ {b:Addr}{l:List Int},H2 b=some (.lst (l.map V.int))→b≠dp:=λe z=>by rw[z,d2] at e;cases e
 have f1:=s2 _ _ b11
 refine⟨d2,[(.inl 4,.ref b1),(.inl 5,.ref b2)],rfl,by simp,?_⟩
 have s03:Same H (upd H2 dp (.dK (zbz [] [(.inl 4,.ref b1),(.inl 5,.ref b2)]))):=(u0.trans (s1.trans s2)).put hdp
 walk_at "gs"
 refine⟨dp,_,ch2 4 (zaq g0) 5 (zaq g1),rfl,zac,zlv (zak g0) (zak g1) (by rw[zaw (ne f1)];exact f1) (by rw[zaw (ne b21)];exact b21),λea H4 s4 ea0 hE=>?_⟩
 have s04:=s03.trans s4
 have e9:∀ l∈zaC (ch2 4 (zaq g0) 5 (zaq g1)),l.length=9:=zaN (λi=>zak i) (zea (zak g0) (zak g1))
 have esm:∀ l∈zaC (ch2 4 (zaq g0) 5 (zaq g1)),Sm l:=zaN (λi=>zaQ i) (zea (zaQ g0) (zaQ g1))
 have elen:=zaE (ch2 4 (zaq g0) 5 (zaq g1))
 generalize zaC (ch2 4 (zaq g0) 5 (zaq g1))=giving at hE e9 esm elen q
 walk_at "gs"
 walk_at "q"
 walk_at "gs"
 refine zfo λdq hdq=>?_
 have w0:=zae hdq (.dK [])
 walk_at "gs"
 refine zax ((s04.trans w0).tup hK) (v:=.int t0) zar ?_
 walk_at "gs"
 refine zcn λv H5 s5 n5=>?_
 obtain⟨b3,rfl,b30,b31⟩:=New.ints_iff.mp n5
 walk_at "gs"
 refine zax ((s04.trans (w0.trans s5)).tup hK) (v:=.int t1) (zap (j:=1) rfl) ?_
 walk_at "gs"
 refine zcn λv H6 s6 n6=>?_
 obtain⟨b4,rfl,b40,b41⟩:=New.ints_iff.mp n6
 walk_at "gs"
 have d6:H6 dq=some (.dK []):=s6 _ _ (s5 _ _ zac)
 have ne6:∀ {b:Addr}{l:List Int},H6 b=some (.lst (l.map V.int))→b≠dq:=λe z=>by rw[z,d6] at e;cases e
 have f3:=s6 _ _ b31
 refine⟨d6,[(.inl t0,.ref b3),(.inl t1,.ref b4)],rfl,by simp,?_⟩
 have s47:Same H4 (upd H6 dq (.dK (zbz [] [(.inl t0,.ref b3),(.inl t1,.ref b4)]))):=(w0.trans (s5.trans s6)).put hdq
 walk_at "gs"
 refine⟨dq,_,ch2 t0 (zaq 6) t1 (zaq 7),rfl,zac,zlv (zak 6) (zak 7) (by rw[zaw (ne6 f3)];exact f3) (by rw[zaw (ne6 b41)];exact b41),λta H8 s8 ta0 hF=>?_⟩
 have s48:=s47.trans s8
 have s08:=s04.trans s48
 have k9:∀ l∈zaC (ch2 t0 (zaq 6) t1 (zaq 7)),l.length=9:=zaN (λi=>zak i) (zea (zak 6) (zak 7))
 have ksm:∀ l∈zaC (ch2 t0 (zaq 6) t1 (zaq 7)),Sm l:=zaN (λi=>zaQ i) (zea (zaQ 6) (zaQ 7))
 have klen:=zaE (ch2 t0 (zaq 6) t1 (zaq 7))
 generalize zaC (ch2 t0 (zaq 6) t1 (zaq 7))=taking at hF k9 ksm klen q
 obtain⟨dx,w1,w2,w3,w4,hp,r1,r2,r3,r4⟩:=hC
 obtain⟨y1,rfl⟩:∃ b,w1=.ref b:=by unfold zaI Rep at r1;obtain⟨a,_,e,_⟩:=r1;exact⟨a,e⟩
 obtain⟨y2,rfl⟩:∃ b,w2=.ref b:=by unfold zaI Rep at r2;obtain⟨a,_,e,_⟩:=r2;exact⟨a,e⟩
 walk_at "gs"
 walk_at "q"
 walk_at "gs"
 refine⟨o,(C 0),dx,_,_,rfl,s08 _ _ hp,Z.c_Craft,Z.n_Craft_needs,zh4 _ _ _ _,?_⟩
 walk_at "gs"
 have hE8:=hE.same s48
 refine⟨y1,ea,needs,giving,rfl,Rep.same s08 _ r1,hE8.rep,by have:=hg.n;omega,λl hl=>⟨hg.n9 l hl,zbK esm⟩,elen,e9,λv H9 s9 n9=>?_⟩
 have rv9:=New.rep (K:=K) n9
 obtain⟨ga,rfl⟩:∃ b,v=.ref b:=by obtain⟨b,_,e,_⟩:=New.news n9;exact⟨b,e⟩
 walk_at "gs"
 have hN9:=hN.same (s08.trans s9)
 refine⟨ga,na,_,notes,rfl,rv9,hN9.rep,by simp;have:=hg.n;omega,by omega,λv1 Ha sa n1'=>?_⟩
 have s0a:=s08.trans (s9.trans sa)
 walk_at "gs"
 refine⟨aa,ta,after,taking,rfl,Rep.same s0a _ hA,(hF.same (s9.trans sa)).rep,by omega,λl hl=>⟨a9 l hl,zbK ksm⟩,klen,k9,λv Hb sb nb=>?_⟩
 have rvb:=New.rep (K:=K) nb
 obtain⟨ha,rfl⟩:∃ b,v=.ref b:=by obtain⟨b,_,e,_⟩:=New.news nb;exact⟨b,e⟩
 have s0b:=s0a.trans sb
 walk_at "gs"
 refine⟨o,(C 0),dx,_,_,rfl,s0b _ _ hp,Z.c_Craft,Z.n_Craft_leaves,zgM _ _ _ _,?_⟩
 walk_at "gs"
 refine⟨y2,ea,leaves,giving,rfl,Rep.same s0b _ r2,(hE8.same (s9.trans (sa.trans sb))).rep,by have:=hg.l;omega,λl hl=>⟨hg.l9 l hl,zbK esm⟩,elen,e9,λv Hc sc nc=>?_⟩
 obtain⟨la,rfl,la0,hL⟩:=nc.ls
 have s0c:=s0b.trans sc
 obtain⟨xs,hxs,lxs⟩:=(hN.same s0c).len
 have hLl:=hL.len
 obtain⟨bs,hbs,lbs,ibs⟩:=hL
 rw[zlm] at lbs
 walk_at "gs"
 refine zbk hxs hbs (zag (by rw[zlm];have:=hg.l;omega)) λp7 hp7=>?_
 have hM:=Ls.more (p:=p7) (bs:=bs) (ms:=leaves.map λl=>zaG l giving) (hN.same s0c) hxs (by rw[zlm];exact lbs) ibs hp7
 have t7:=zae hp7 (.lst (xs++bs.map V.ref))
 walk_at "gs"
 refine⟨ha,p7,_,notes++leaves.map λl=>zaG l giving,rfl,Rep.same (sc.trans t7) _ rvb,hM.rep,by simp;omega,by simp;have:=hg.l;omega,λv2 Hd sd nd=>?_⟩
 obtain⟨a1,vs1,fa1,rfl,z1,y1',r1',_⟩:=New.lst_out n1'
 obtain⟨a2,vs2,fa2,rfl,z2,y2',r2',_⟩:=New.lst_out nd
 have l1:=r1'.length
 have l2:=r2'.length
 simp only[zlm] at l1 l2
 have sad:=sb.trans (sc.trans (t7.trans sd))
 walk_at "gs"
 refine zbk (sad _ _ y1') y2' (zag (by have:=hg.n;omega)) λp8 hp8=>?_
 exact q _ _ ((s0a.trans sad).trans (zae hp8 _)) (New.cat (n1'.back (s08.trans s9)) s0a sad (nd.back (sb.trans (sc.trans t7))) (sad _ _ y1') y2' hp8)
theorem zhu {H:Hp}{a c d:Addr}{l k j:List Int}(h:H a=some (.lst (l.map V.int))) (h':H c=some (.lst (k.map V.int))) (h2:H d=some (.lst (j.map V.int))):∀ (i:Nat) b m,[a,c,d][i]?=some b→[l,k,j][i]?=some m→H b=some (.lst (m.map V.int)):=λi b m e1 e2=>by
 cases i with
 | zero=>simp at e1 e2;subst e1;subst e2;exact h
 | succ i=>exact zb1 h' h2 i b m (by simpa using e1) (by simpa using e2)
def zdq (K:Fg):Sp:=λvs H Q _=>∃ (t na aa la:Addr) (h by':Int) (line:List Int) (notes after:List (List Int)),vs=[.ref t,.ref na,.ref aa]∧SqT K H t [.str "part",.int h,.ref la,.int by']∧H la=some (.lst (line.map V.int))∧line.length=9∧(-1000000<by'∧by'<1000000)∧Ls H na notes∧Rep K H (zaI after) (.ref aa)∧notes.length≤100∧after.length≤100∧(∀ l∈after,l.length=9)∧
 ∀ v H',Same H H'→New H H' (.lst ((after.map λl=>zaG l (zaC (ch1 h (zaq 6)))).map λg=>zcP g (notes++[za4 line by',greatest line by']))) v→Q v H'
theorem zfe {f:Addr}{fd:FuncData}(B:Bl K mg) {C:Nat→Addr}(Z:Zt K mg C) (G_summed:Fn P w K mg base "summed" ["lines","weights"] 1 (zc4 K)) (G_each_from:Fn P w K mg base "each_from" ["goals","hypotheses"] 2 (zbu K)) (G_all_turned:Fn P w K mg base "all_turned" ["lines","eight"] 3 (zby K)) (G_bare:Fn P w K mg base "bare" ["i"] 1 (zc3 K)) (G_constant:Fn P w K mg base "constant" ["number"] 1 (zbX K)) (G_eight_with:Fn P w K mg base "eight_with" ["changes"] 2 (zbx K)) (F:Fun K "part_duties" "part_duties" s_part_duties f fd) (m:mg "part_duties"=some (.ref f)):Fn P w K mg base "part_duties" ["deed","notes","after"] 4 (zdq K):=by
 refine Fn.of (k:=3) F zbI m (λ_ _ _ _ _ _ us hl=>match us,hl with | [_,_,_],_=>rfl) (λvs H Q E h=>?_) (λcdv A outer s H vs Q E hr h=>?_)
 ·first
  | (obtain⟨_,_,_,_,_,_,_,_,_,rfl,_⟩:=h;rfl)
 obtain⟨t,na,aa,la,h,by',line,notes,after,rfl,hT,hla,l9,hby,hN,hA,ln,lf,a9,q⟩:=h
 refine⟨_,(zah (zaB (i:=3) zbI.nd rfl (Or.inl rfl) (zav (k_ix K) (pv 0) zab (λ_ _=>rfl)))
   (zah (zaB (i:=4) zbI.nd rfl (Or.inl rfl) (zav (k_ix K) (pv 0) zab (λ_ _=>rfl)))
   (zah (zaB (i:=5) zbI.nd rfl (Or.inl rfl) (zao G_summed hr rfl (zbh (zaH (zad (pv 3) (zaz (zao G_bare hr rfl (zad (zbC rfl B.c_NEW_0) zaa)) zaa))) (zbh (zaH (zai zab (zfa (zdG zch (pv 4)) zaa))) zaa))))
   (zah (zaB (i:=6) zbI.nd rfl (Or.inl rfl) (zao G_summed hr rfl (zbh (zaH (zaz (zao G_bare hr rfl (zad (zbC rfl B.c_NEW_0) zaa)) (zaz (zao G_constant hr rfl (zaU (zau zex (pv 4) zab) zaa)) (zad (pv 3) zaa)))) (zbh (zaH (zad (pv 4) (zai zab (zfa (zdG zch zab) zaa)))) zaa))))
   (zal (zaA (zao G_each_from hr rfl (zaz (zao G_all_turned hr rfl (zad (pv 2) (zaz (zao G_eight_with hr rfl (zbq (zd3 (zbP (zav (k_ix K) (pv 0) zab (λ_ _=>rfl)) (zao G_bare hr rfl (zad (zbC rfl B.c_NEW_0) zaa)) zd2) rfl rfl (by simp) (by simp)) zaa)) zaa))) (zaU (zau (zaF K) (pv 1) (zaH (zad (pv 5) (zad (pv 6) zaa)))) zaa))))))))),?_⟩
 walk_at "q"
 walk_at "gs"
 refine zax hT (v:=.ref la) (zap (j:=2) rfl) ?_
 walk_at "gs"
 walk_at "q"
 walk_at "gs"
 refine zax hT (v:=.int by') (zap (j:=3) rfl) ?_
 walk_at "gs"
 walk_at "q"
 walk_at "gs"
 refine zcn λv H1 s1 n1=>?_
 obtain⟨b1,rfl,b10,b11⟩:=New.ints_iff.mp n1
 walk_at "gs"
 refine⟨zag (by simp),λp hp=>?_⟩
 have t1:=zae hp (.lst [V.ref la,.ref b1])
 walk_at "gs"
 refine⟨zag (by simp),λp2 hp2=>?_⟩
 have t2:=zae hp2 (.lst [V.int 1,.int (-by')])
 have s02:=s1.trans (t1.trans t2)
 walk_at "gs"
 refine⟨p,p2,[line,zaq 6],[1,-by'],rfl,zcv (bs:=[la,b1]) (t2 _ _ zac) rfl (zb1 (s02 _ _ hla) ((t1.trans t2) _ _ b11)),SqL.of zac,rfl,by simp,λl hl=>?_,λi l w _ e2 n _=>?_,λv H3 s3 n3=>?_⟩
 ·simp at hl;rcases hl with rfl | rfl
  ·exact l9
  ·exact zak 6
 ·have:w=1∨w=-by':=by
   have:=zmg e2
   simp at this;exact this
  rcases this with z | z <;> subst z <;> exact .inr ⟨by omega,by omega⟩
 obtain⟨fa,rfl,fa0,fa1⟩:=New.ints_iff.mp n3
 have s03:=s02.trans s3
 walk_at "gs"
 walk_at "q"
 walk_at "gs"
 refine zcn λv H4 s4 n4=>?_
 obtain⟨b2,rfl,b20,b21⟩:=New.ints_iff.mp n4
 walk_at "gs"
 refine zeb λv H5 s5 n5=>?_
 obtain⟨c2,rfl,c20,c21⟩:=New.ints_iff.mp n5
 walk_at "gs"
 refine⟨zag (by simp),λp3 hp3=>?_⟩
 have t3:=zae hp3 (.lst [V.ref b2,.ref c2,.ref la])
 walk_at "gs"
 refine⟨zag (by simp),λp4 hp4=>?_⟩
 have t4:=zae hp4 (.lst [V.int by',.int 1,.int (-1)])
 have s35:=s4.trans (s5.trans (t3.trans t4))
 walk_at "gs"
 refine⟨p3,p4,[zaq 6,kL (by' - 1),line],[by',1,-1],rfl,zcv (bs:=[b2,c2,la]) (t4 _ _ zac) rfl (zhu ((s5.trans (t3.trans t4)) _ _ b21) ((t3.trans t4) _ _ c21) ((s03.trans s35) _ _ hla)),SqL.of zac,rfl,by simp,λl hl=>?_,λi l w _ e2 n _=>?_,λv H6 s6 n6=>?_⟩
 ·simp at hl;rcases hl with rfl | rfl | rfl
  ·exact zak 6
  ·exact zaX _
  ·exact l9
 ·have:w=by'∨w=1∨w=-1:=by
   have:=zmg e2
   simp at this;exact this
  rcases this with z | z | z <;> subst z <;> exact .inr ⟨by omega,by omega⟩
 obtain⟨ta,rfl,ta0,ta1⟩:=New.ints_iff.mp n6
 have s36:=s35.trans s6
 have s06:=s03.trans s36
 walk_at "gs"
 refine zfo λdp hdp=>?_
 have u0:=zae hdp (.dK [])
 walk_at "gs"
 refine zax ((s06.trans u0).tup hT) (v:=.int h) (zap (j:=1) rfl) ?_
 walk_at "gs"
 refine zcn λv H7 s7 n7=>?_
 obtain⟨b3,rfl,b30,b31⟩:=New.ints_iff.mp n7
 walk_at "gs"
 refine⟨s7 _ _ zac,[(.inl h,.ref b3)],rfl,by simp,?_⟩
 have b3d:b3≠dp:=λz=>by rw[z,zac] at b30;cases b30
 have s67:Same H6 (upd H7 dp (.dK (zbz [] [(.inl h,.ref b3)]))):=(u0.trans s7).put hdp
 have s07:=s06.trans s67
 walk_at "gs"
 refine⟨dp,_,ch1 h (zaq 6),rfl,zac,zj9 (zak 6) (by rw[zaw b3d];exact b31),λea H8 s8 ea0 hE=>?_⟩
 have s08:=s07.trans s8
 have m9:∀ l∈zaC (ch1 h (zaq 6)),l.length=9:=zaN (λi=>zak i) (zc5 (zak 6))
 have msm:∀ l∈zaC (ch1 h (zaq 6)),Sm l:=zaN (λi=>zaQ i) (zc5 (zaQ 6))
 walk_at "gs"
 refine⟨aa,ea,after,zaC (ch1 h (zaq 6)),rfl,Rep.same s08 _ hA,hE.rep,by omega,λl hl=>⟨a9 l hl,zbK msm⟩,zaE _,m9,λv H9 s9 n9=>?_⟩
 have gv:=New.rep (K:=K) n9
 obtain⟨ga,rfl⟩:∃ b,v=.ref b:=by obtain⟨b,_,e,_⟩:=New.news n9;exact⟨b,e⟩
 have s09:=s08.trans s9
 have s69:=s67.trans (s8.trans s9)
 walk_at "gs"
 refine⟨zag (by simp),λp5 hp5=>?_⟩
 have t5:=zae hp5 (.lst [V.ref fa,.ref ta])
 obtain⟨xs,hxs,lxs⟩:=(hN.same s09).len
 walk_at "gs"
 refine zbk (t5 _ _ hxs) zac (zag (by simp;omega)) λp6 hp6=>?_
 have hL:=Ls.more (p:=p6) (bs:=[fa,ta]) (ms:=[za4 line by',greatest line by']) ((hN.same s09).same t5) (t5 _ _ hxs) rfl (zb1 (t5 _ _ (s69 _ _ (s36 _ _ fa1))) (t5 _ _ (s69 _ _ ta1))) hp6
 have t6:=zae hp6 (.lst (xs++[V.ref fa,.ref ta]))
 have t56:=t5.trans t6
 walk_at "gs"
 refine⟨ga,p6,_,notes++[za4 line by',greatest line by'],rfl,Rep.same t56 _ gv,hL.rep,by simp;omega,by simp;omega,λv Ha sa na'=>?_⟩
 exact q _ _ (s09.trans (t56.trans sa)) (na'.back (s09.trans t56))
def zdr (K:Fg):Sp:=λvs H Q _=>∃ (t na aa:Addr) (h lo hi:Int) (notes after:List (List Int)),vs=[.ref t,.ref na,.ref aa]∧SqT K H t [.str "draw",.int h,.int lo,.int hi]∧Ls H na notes∧Rep K H (zaI after) (.ref aa)∧notes.length≤100∧after.length≤100∧(∀ l∈after,l.length=9)∧
 ∀ v H',Same H H'→New H H' (.lst ((after.map λl=>zaG l (zaC (ch1 h (zaq 6)))).map λg=>zcP g (notes++[zb5 lo,zcx hi]))) v→Q v H'
theorem zff {f:Addr}{fd:FuncData}(B:Bl K mg) {C:Nat→Addr}(Z:Zt K mg C) (G_summed:Fn P w K mg base "summed" ["lines","weights"] 1 (zc4 K)) (G_each_from:Fn P w K mg base "each_from" ["goals","hypotheses"] 2 (zbu K)) (G_all_turned:Fn P w K mg base "all_turned" ["lines","eight"] 3 (zby K)) (G_bare:Fn P w K mg base "bare" ["i"] 1 (zc3 K)) (G_constant:Fn P w K mg base "constant" ["number"] 1 (zbX K)) (G_eight_with:Fn P w K mg base "eight_with" ["changes"] 2 (zbx K)) (F:Fun K "draw_duties" "draw_duties" s_draw_duties f fd) (m:mg "draw_duties"=some (.ref f)):Fn P w K mg base "draw_duties" ["deed","notes","after"] 4 (zdr K):=by
 refine Fn.of (k:=3) F zcs m (λ_ _ _ _ _ _ us hl=>match us,hl with | [_,_,_],_=>rfl) (λvs H Q E h=>?_) (λcdv A outer s H vs Q E hr h=>?_)
 ·first
  | (obtain⟨_,_,_,_,_,_,_,_,rfl,_⟩:=h;rfl)
 obtain⟨t,na,aa,h,lo,hi,notes,after,rfl,hT,hN,hA,ln,lf,a9,q⟩:=h
 refine⟨_,(zah (zaB (i:=3) zcs.nd rfl (Or.inl rfl) (zao G_summed hr rfl (zbh (zaH (zaz (zao G_bare hr rfl (zad (zbC rfl B.c_NEW_0) zaa)) (zaz (zao G_constant hr rfl (zaT (zav (k_ix K) (pv 0) zab (λ_ _=>rfl)) zaa)) zaa))) (zbh (zaH (zai zab (zfa (zdG zch zab) zaa))) zaa))))
   (zah (zaB (i:=4) zcs.nd rfl (Or.inl rfl) (zao G_summed hr rfl (zbh (zaH (zaz (zao G_constant hr rfl (zaT (zav (k_ix K) (pv 0) zab (λ_ _=>rfl)) zaa)) (zaz (zao G_bare hr rfl (zad (zbC rfl B.c_NEW_0) zaa)) zaa))) (zbh (zaH (zai zab (zfa (zdG zch zab) zaa))) zaa))))
   (zal (zaA (zao G_each_from hr rfl (zaz (zao G_all_turned hr rfl (zad (pv 2) (zaz (zao G_eight_with hr rfl (zbq (zd3 (zbP (zav (k_ix K) (pv 0) zab (λ_ _=>rfl)) (zao G_bare hr rfl (zad (zbC rfl B.c_NEW_0) zaa)) zd2) rfl rfl (by simp) (by simp)) zaa)) zaa))) (zaU (zau (zaF K) (pv 1) (zaH (zad (pv 3) (zad (pv 4) zaa)))) zaa))))))),?_⟩
 obtain⟨c6,hc6⟩:=B.c_NEW_0
 walk_at "q"
 walk_at "gs"
 refine zcn λv H1 s1 n1=>?_
 obtain⟨b1,rfl,b10,b11⟩:=New.ints_iff.mp n1
 walk_at "gs"
 refine zax (s1.tup hT) (v:=.int lo) (zap (j:=2) rfl) ?_
 walk_at "gs"
 refine zeb λv H2 s2 n2=>?_
 obtain⟨c1,rfl,c10,c11⟩:=New.ints_iff.mp n2
 walk_at "gs"
 refine⟨zag (by simp),λp hp=>?_⟩
 have t1:=zae hp (.lst [V.ref b1,.ref c1])
 walk_at "gs"
 refine⟨zag (by simp),λp2 hp2=>?_⟩
 have t2:=zae hp2 (.lst [V.int 1,.int (-1)])
 have s02:=s1.trans (s2.trans (t1.trans t2))
 walk_at "gs"
 refine⟨p,p2,[zaq 6,kL lo],[1,-1],rfl,zcv (bs:=[b1,c1]) (t2 _ _ zac) rfl (zb1 ((s2.trans (t1.trans t2)) _ _ b11) ((t1.trans t2) _ _ c11)),SqL.of zac,rfl,by simp,λl hl=>?_,λi l w _ e2 n _=>?_,λv H3 s3 n3=>?_⟩
 ·simp at hl;rcases hl with rfl | rfl
  ·exact zak 6
  ·exact zaX lo
 ·have:w=1∨w=-1:=by
   have:=zmg e2
   simp at this;exact this
  rcases this with z | z <;> subst z <;> exact .inr ⟨by decide,by decide⟩
 obtain⟨fa,rfl,fa0,fa1⟩:=New.ints_iff.mp n3
 have s03:=s02.trans s3
 walk_at "gs"
 walk_at "q"
 walk_at "gs"
 refine zax (s03.tup hT) (v:=.int hi) (zap (j:=3) rfl) ?_
 walk_at "gs"
 refine zeb λv H4 s4 n4=>?_
 obtain⟨c2,rfl,c20,c21⟩:=New.ints_iff.mp n4
 walk_at "gs"
 refine zcn λv H5 s5 n5=>?_
 obtain⟨b2,rfl,b20,b21⟩:=New.ints_iff.mp n5
 walk_at "gs"
 refine⟨zag (by simp),λp3 hp3=>?_⟩
 have t3:=zae hp3 (.lst [V.ref c2,.ref b2])
 walk_at "gs"
 refine⟨zag (by simp),λp4 hp4=>?_⟩
 have t4:=zae hp4 (.lst [V.int 1,.int (-1)])
 have s35:=s4.trans (s5.trans (t3.trans t4))
 walk_at "gs"
 refine⟨p3,p4,[kL hi,zaq 6],[1,-1],rfl,zcv (bs:=[c2,b2]) (t4 _ _ zac) rfl (zb1 ((s5.trans (t3.trans t4)) _ _ c21) ((t3.trans t4) _ _ b21)),SqL.of zac,rfl,by simp,λl hl=>?_,λi l w _ e2 n _=>?_,λv H6 s6 n6=>?_⟩
 ·simp at hl;rcases hl with rfl | rfl
  ·exact zaX hi
  ·exact zak 6
 ·have:w=1∨w=-1:=by
   have:=zmg e2
   simp at this;exact this
  rcases this with z | z <;> subst z <;> exact .inr ⟨by decide,by decide⟩
 obtain⟨ta,rfl,ta0,ta1⟩:=New.ints_iff.mp n6
 have s36:=s35.trans s6
 have s06:=s03.trans s36
 walk_at "gs"
 refine zfo λdp hdp=>?_
 have u0:=zae hdp (.dK [])
 walk_at "gs"
 refine zax ((s06.trans u0).tup hT) (v:=.int h) (zap (j:=1) rfl) ?_
 walk_at "gs"
 refine zcn λv H7 s7 n7=>?_
 obtain⟨b3,rfl,b30,b31⟩:=New.ints_iff.mp n7
 walk_at "gs"
 refine⟨s7 _ _ zac,[(.inl h,.ref b3)],rfl,by simp,?_⟩
 have b3d:b3≠dp:=λz=>by rw[z,zac] at b30;cases b30
 have s67:Same H6 (upd H7 dp (.dK (zbz [] [(.inl h,.ref b3)]))):=(u0.trans s7).put hdp
 have s07:=s06.trans s67
 walk_at "gs"
 refine⟨dp,_,ch1 h (zaq 6),rfl,zac,zj9 (zak 6) (by rw[zaw b3d];exact b31),λea H8 s8 ea0 hE=>?_⟩
 have s08:=s07.trans s8
 have m9:∀ l∈zaC (ch1 h (zaq 6)),l.length=9:=zaN (λi=>zak i) (zc5 (zak 6))
 have msm:∀ l∈zaC (ch1 h (zaq 6)),Sm l:=zaN (λi=>zaQ i) (zc5 (zaQ 6))
 walk_at "gs"
 refine⟨aa,ea,after,zaC (ch1 h (zaq 6)),rfl,Rep.same s08 _ hA,hE.rep,by omega,λl hl=>⟨a9 l hl,zbK msm⟩,zaE _,m9,λv H9 s9 n9=>?_⟩
 have gv:=New.rep (K:=K) n9
 obtain⟨ga,rfl⟩:∃ b,v=.ref b:=by obtain⟨b,_,e,_⟩:=New.news n9;exact⟨b,e⟩
 have s09:=s08.trans s9
 have s69:=s67.trans (s8.trans s9)
 walk_at "gs"
 refine⟨zag (by simp),λp5 hp5=>?_⟩
 have t5:=zae hp5 (.lst [V.ref fa,.ref ta])
 obtain⟨xs,hxs,lxs⟩:=(hN.same s09).len
 walk_at "gs"
 refine zbk (t5 _ _ hxs) zac (zag (by simp;omega)) λp6 hp6=>?_
 have hL:=Ls.more (p:=p6) (bs:=[fa,ta]) (ms:=[zb5 lo,zcx hi]) ((hN.same s09).same t5) (t5 _ _ hxs) rfl (zb1 (t5 _ _ (s69 _ _ (s36 _ _ fa1))) (t5 _ _ (s69 _ _ ta1))) hp6
 have t6:=zae hp6 (.lst (xs++[V.ref fa,.ref ta]))
 have t56:=t5.trans t6
 walk_at "gs"
 refine⟨ga,p6,_,notes++[zb5 lo,zcx hi],rfl,Rep.same t56 _ gv,hL.rep,by simp;omega,by simp;omega,λv Ha sa na'=>?_⟩
 exact q _ _ (s09.trans (t56.trans sa)) (na'.back (s09.trans t56))
def zds (K:Fg):Sp:=λvs H Q _=>∃ (la na ta aa:Addr) (line:List Int) (notes there after:List (List Int)),vs=[.ref la,.ref na,.ref ta,.ref aa]∧H la=some (.lst (line.map V.int))∧line.length=9∧Ls H na notes∧Rep K H (zaI there) (.ref ta)∧Rep K H (zaI after) (.ref aa)∧notes.length≤100∧there.length≤100∧after.length≤100∧
 ∀ v H',Same H H'→New H H' (.lst ((there.map λg=>zcP g (notes++[line]))++after.map λg=>zcP g (notes++[zcN line]))) v→Q v H'
theorem zfg {f:Addr}{fd:FuncData}(B:Bl K mg) {C:Nat→Addr}(Z:Zt K mg C) (G_summed:Fn P w K mg base "summed" ["lines","weights"] 1 (zc4 K)) (G_each_from:Fn P w K mg base "each_from" ["goals","hypotheses"] 2 (zbu K)) (G_constant:Fn P w K mg base "constant" ["number"] 1 (zbX K)) (F:Fun K "turn_duties" "turn_duties" s_turn_duties f fd) (m:mg "turn_duties"=some (.ref f)):Fn P w K mg base "turn_duties" ["line","notes","there","after"] 3 (zds K):=by
 refine Fn.of (k:=2) F zdn m (λ_ _ _ _ _ _ us hl=>match us,hl with | [_,_,_,_],_=>rfl) (λvs H Q E h=>?_) (λcdv A outer s H vs Q E hr h=>?_)
 ·first
  | (obtain⟨_,_,_,_,_,_,_,_,rfl,_⟩:=h;rfl)
 obtain⟨la,na,ta,aa,line,notes,there,after,rfl,hla,l9,hN,hT,hA,ln,lt,lf,q⟩:=h
 refine⟨_,(zah (zaB (i:=4) zdn.nd rfl (Or.inl rfl) (zao G_summed hr rfl (zbh (zaH (zad (pv 0) (zaz (zao G_constant hr rfl (zai zab zaa)) zaa))) (zbh (zaH (zfa (zdG zch zab) (zfa (zdG zch zab) zaa))) zaa))))
   (zal (zaA (zau (zaF K) (zao G_each_from hr rfl (zad (pv 2) (zaU (zau (zaF K) (pv 1) (zaH (zad (pv 0) zaa))) zaa))) (zao G_each_from hr rfl (zad (pv 3) (zaU (zau (zaF K) (pv 1) (zaH (zad (pv 4) zaa))) zaa))))))),?_⟩
 walk_at "q"
 walk_at "gs"
 refine zeb λv H1 s1 n1=>?_
 obtain⟨ca,rfl,ca0,ca1⟩:=New.ints_iff.mp n1
 walk_at "gs"
 refine⟨zag (by simp),λp hp=>?_⟩
 have t1:=zae hp (.lst [V.ref la,.ref ca])
 walk_at "gs"
 refine⟨zag (by simp),λp2 hp2=>?_⟩
 have t2:=zae hp2 (.lst [V.int (-1),.int (-1)])
 have s12:=s1.trans (t1.trans t2)
 walk_at "gs"
 refine⟨p,p2,[line,kL 1],[-1,-1],rfl,zcv (bs:=[la,ca]) (t2 _ _ zac) rfl (zb1 (s12 _ _ hla) ((t1.trans t2) _ _ ca1)),SqL.of zac,rfl,by simp,λl hl=>?_,λi l w _ e2 n _=>?_,λv H2 s2 n2=>?_⟩
 ·simp at hl;rcases hl with rfl | rfl
  ·exact l9
  ·exact zaX 1
 ·have:w=-1:=by
   have:=zmg e2
   simp at this;exact this
  subst this;exact .inr ⟨by decide,by decide⟩
 obtain⟨ba,rfl,ba0,ba1⟩:=New.ints_iff.mp n2
 have sA:=s12.trans s2
 obtain⟨xs,hxs,lxs⟩:=(hN.same sA).len
 walk_at "gs"
 refine⟨zag (by simp),λp3 hp3=>?_⟩
 have t3:=zae hp3 (.lst [V.ref la])
 walk_at "gs"
 refine zbk (t3 _ _ hxs) zac (zag (by simp;omega)) λp4 hp4=>?_
 have hL4:=Ls.more (p:=p4) (bs:=[la]) (ms:=[line]) ((hN.same sA).same t3) (t3 _ _ hxs) rfl (zdd (t3 _ _ (sA _ _ hla))) hp4
 have t4:=zae hp4 (.lst (xs++[V.ref la]))
 have sB:=sA.trans (t3.trans t4)
 walk_at "gs"
 refine⟨ta,p4,there,notes++[line],rfl,Rep.same sB _ hT,hL4.rep,by omega,by simp;omega,λv1 H3 s3 n3=>?_⟩
 have sC:=sB.trans s3
 have sAC:=(t3.trans t4).trans s3
 walk_at "gs"
 refine⟨zag (by simp),λp5 hp5=>?_⟩
 have t5:=zae hp5 (.lst [V.ref ba])
 walk_at "gs"
 refine zbk (t5 _ _ (sAC _ _ hxs)) zac (zag (by simp;omega)) λp6 hp6=>?_
 have hL6:=Ls.more (p:=p6) (bs:=[ba]) (ms:=[zcN line]) ((hN.same sC).same t5) (t5 _ _ (sAC _ _ hxs)) rfl (zdd (t5 _ _ (sAC _ _ ba1))) hp6
 have t6:=zae hp6 (.lst (xs++[V.ref ba]))
 have t56:=t5.trans t6
 walk_at "gs"
 refine⟨aa,p6,after,notes++[zcN line],rfl,Rep.same (sC.trans t56) _ hA,hL6.rep,by omega,by simp;omega,λv2 H4 s4 n4=>?_⟩
 obtain⟨a1,vs1,f1,rfl,z1,y1,r1,_⟩:=New.lst_out n3
 obtain⟨a2,vs2,f2,rfl,z2,y2,r2,_⟩:=New.lst_out n4
 have l1:=r1.length
 have l2:=r2.length
 simp only[zlm] at l1 l2
 have sD:=t56.trans s4
 walk_at "gs"
 refine zbk (sD _ _ y1) y2 (zag (by omega)) λp7 hp7=>?_
 exact q _ _ ((sC.trans sD).trans (zae hp7 _)) (New.cat (n3.back sB) sC sD (n4.back t56) (sD _ _ y1) y2 hp7)
theorem zh6:decide (("part" : Str) ="set")=false∧decide (("draw" : Str) ="set")=false∧decide (("draw" : Str) ="part")=false∧decide (("turn" : Str) ="set")=false∧decide (("turn" : Str) ="part")=false∧decide (("turn" : Str) ="draw")=false∧decide (("hold" : Str) ="set")=false∧decide (("hold" : Str) ="part")=false∧decide (("hold" : Str) ="draw")=false∧decide (("hold" : Str) ="turn")=false∧decide (("call" : Str) ="set")=false∧decide (("call" : Str) ="part")=false∧decide (("call" : Str) ="draw")=false∧decide (("call" : Str) ="turn")=false∧decide (("call" : Str) ="hold")=false:=by decide +kernel
def zdt (K:Fg) (C:Nat→Addr):Sp:=λvs H Q _=>∃ (p ca:Addr) (place:Nat) (needs leaves:List (List Int)) (deeds:List Dd) (notes:List (List (List Int))) (kvs:List (Key × V)) (oath:Oath) (d:Dd),vs=[.ref p,.int place,.ref ca]∧zdm K (C 0) H p needs leaves deeds notes∧Good needs leaves deeds.length notes∧deeds[place]?=some d∧dOk deeds.length d∧H ca=some (.dK kvs)∧ziF K (C 0) H kvs oath d∧
 ∀ v H',Same H H'→New H H' (.lst (zdQ (dueL leaves notes place) (dueL leaves notes (place+1)) (dueL leaves notes) oath d)) v→Q v H'
theorem zfh {f:Addr}{fd:FuncData}(B:Bl K mg) {C:Nat→Addr}(Z:Zt K mg C) (G_due_at:Fn P w K mg base "due_at" ["craft","place"] 3 (zdU K C)) (G_call_duties:Fn P w K mg base "call_duties" ["deed","notes","after","other"] 4 (zdp K C)) (G_each_from:Fn P w K mg base "each_from" ["goals","hypotheses"] 2 (zbu K)) (G_part_duties:Fn P w K mg base "part_duties" ["deed","notes","after"] 4 (zdq K)) (G_draw_duties:Fn P w K mg base "draw_duties" ["deed","notes","after"] 4 (zdr K)) (G_turn_duties:Fn P w K mg base "turn_duties" ["line","notes","there","after"] 3 (zds K)) (G_all_turned:Fn P w K mg base "all_turned" ["lines","eight"] 3 (zby K)) (G_eight_with:Fn P w K mg base "eight_with" ["changes"] 2 (zbx K)) (F:Fun K "deed_duties" "deed_duties" s_deed_duties f fd) (m:mg "deed_duties"=some (.ref f)):Fn P w K mg base "deed_duties" ["craft","place","crafts"] 5 (zdt K C):=by
 refine Fn.of (k:=4) F zbH m (λ_ _ _ _ _ _ us hl=>match us,hl with | [_,_,_],_=>rfl) (λvs H Q E h=>?_) (λcdv A outer s H vs Q E hr h=>?_)
 ·first
  | (obtain⟨_,_,_,_,_,_,_,_,_,_,rfl,_⟩:=h;rfl)
 obtain⟨p,ca,place,needs,leaves,deeds,notes,kvs,oath,d,rfl,hT,hg,hd,ok,hca,hcl,q⟩:=h
 refine⟨_,(zah (zaB (i:=3) zbH.nd rfl (Or.inl rfl) (zav (k_ix K) (zeM K (pv 0) rfl) (pv 1) (λ_ _=>rfl)))
   (zah (zaB (i:=4) zbH.nd rfl (Or.inl rfl) (zao G_due_at hr rfl (zad (pv 0) (zad (pv 1) zaa))))
   (zah (zaB (i:=5) zbH.nd rfl (Or.inl rfl) (zao G_due_at hr rfl (zad (pv 0) (zaU (zau (zaF K) (pv 1) zab) zaa))))
   (zah (zaB (i:=6) zbH.nd rfl (Or.inl rfl) (zav (k_ix K) (pv 3) zab (λ_ _=>rfl)))
   (zah (zbB (zaR (k_eq K hr) (pv 6) zbN (za1 _)) (zal (zaA (zao G_each_from hr rfl (zaz (zao G_all_turned hr rfl (zad (pv 5) (zaz (zao G_eight_with hr rfl (zbq (zd3 (zbP (zav (k_ix K) (pv 3) zab (λ_ _=>rfl)) (zav (k_ix K) (pv 3) zab (λ_ _=>rfl)) zd2) rfl rfl (by simp) (by simp)) zaa)) zaa))) (zad (pv 4) zaa))))) zaP)
   (zah (zbB (zaR (k_eq K hr) (pv 6) zbN (za1 _)) (zal (zaA (zao G_part_duties hr rfl (zad (pv 3) (zad (pv 4) (zad (pv 5) zaa)))))) zaP)
   (zah (zbB (zaR (k_eq K hr) (pv 6) zbN (za1 _)) (zal (zaA (zao G_draw_duties hr rfl (zad (pv 3) (zad (pv 4) (zad (pv 5) zaa)))))) zaP)
   (zah (zbB (zaR (k_eq K hr) (pv 6) zbN (za1 _)) (zal (zaA (zao G_turn_duties hr rfl (zaT (zav (k_ix K) (pv 3) zab (λ_ _=>rfl)) (zad (pv 4) (zaz (zao G_due_at hr rfl (zad (pv 0) (zaT (zav (k_ix K) (pv 3) zab (λ_ _=>rfl)) zaa))) (zad (pv 5) zaa))))))) zaP)
   (zah (zbB (zaR (k_eq K hr) (pv 6) zbN (za1 _)) (zal (zaA (zau (zaF K) (zao G_each_from hr rfl (zbh (zaH (zaT (zav (k_ix K) (pv 3) zab (λ_ _=>rfl)) zaa)) (zad (pv 4) zaa))) (zao G_each_from hr rfl (zad (pv 5) (zaU (zau (zaF K) (pv 4) (zaH (zaT (zav (k_ix K) (pv 3) zab (λ_ _=>rfl)) zaa))) zaa)))))) zaP)
   (zal (zaA (zao G_call_duties hr rfl (zad (pv 3) (zad (pv 4) (zad (pv 5) (zaT (zfD (hr_u hr) (pv 2) (zav (k_ix K) (pv 3) zab (λ_ _=>rfl)) (λ_ _=>rfl)) zaa)))))))))))))))),?_⟩
 obtain⟨k1,k2,k3,k4,k5,k6,k7,k8,k9,k10,k11,k12,k13,k14,k15⟩:=zh6
 have lp:place<deeds.length:=(zge.mp hd).1
 obtain⟨hC,dx,w1,w2,bd,w4,dvs,hp,hbd,hD⟩:=hT
 obtain⟨x,hx,rx⟩:=R2.get hD lp
 rw[List.getElem?_eq_getElem lp] at hd
 cases hd
 generalize hdd:deeds[place]=d at rx ok hcl q
 obtain⟨t,ys,rfl,htup⟩:=zfP rx
 walk_at "q"
 walk_at "gs"
 refine⟨p,(C 0),dx,_,_,rfl,hp,Z.c_Craft,Z.n_Craft_deeds,zdS _ _ _ _,?_⟩
 walk_at "gs"
 refine zbE (SqL.of hbd) (v:=.ref t) (zap hx) ?_
 walk_at "gs"
 have due:∀ {Hx:Hp}{Q':VK}(k:Int),Same H Hx→0≤k→k≤(deeds.length:Int)→(∀ a H',Same Hx H'→Hx a=none→Ls H' a (dueL leaves notes k)→Q' (.ref a) H')→zdU K C [.ref p,.int k] Hx Q' E0:=λ{Hx Q'} k s k0 kn hq=>
  ⟨p,k,needs,leaves,deeds.map toD,notes,rfl,hC.same s,k0,by rw[zlm];exact kn,by rw[zlm];exact hg.dn,by rw[zlm];have:=hg.d;omega,by have:=hg.l;omega,hg.l9,λls hl=>by have:=(hg.o ls hl).1;omega,λv H' s' n'=>by obtain⟨a,rfl,a0,hL⟩:=n'.ls;exact hq a H' s' a0 hL⟩
 walk_at "q"
 walk_at "gs"
 refine due _ (Same.refl _) (by omega) (by omega) λna H1 s1 na0 hN=>?_
 walk_at "gs"
 walk_at "q"
 walk_at "gs"
 refine due _ s1 (by omega) (by omega) λaa H2 s2 aa0 hA=>?_
 have s02:=s1.trans s2
 have hN2:=hN.same s2
 have gN:=hg.due (place:Int)
 have gA:=hg.due ((place:Int)+1)
 have h2:=s02 _ _ htup
 walk_at "gs"
 walk_at "q"
 walk_at "gs"
 refine zax (SqT.of h2) zar ?_
 walk_at "gs"
 have rx2:zb4 H2 (toD d) (.ref t):=rx.sq s02.sq
 generalize dueL leaves notes (place:Int)=N at hN2 gN q
 generalize dueL leaves notes ((place:Int)+1)=A at hA gA q
 cases d with
 | set h l=>
  obtain⟨t',xs,et,hT2,px⟩:=za6 rx2
  cases et
  obtain⟨x0,r,rfl,e0,px⟩:=zam px
  obtain⟨x1,r,rfl,e1,px⟩:=zam px
  obtain⟨x2,r,rfl,e2,px⟩:=zam px
  cases zbn px;cases zbw e0
  cases za9 e1
  obtain⟨b2,rfl,hb2⟩:=zb2 e2
  with_reducible refine zfn (λQ2 q2=>?_) (λNX=>?_)
  ·walk_at "gs"
   rw[decide_eq_true (show zb6 (Dd.set h l) ="set" from rfl)]
   exact q2
  walk_at "gs"
  refine zfo λdp hdp=>?_
  have u0:=zae hdp (.dK [])
  walk_at "gs"
  refine zax (SqT.of (u0 _ _ hT2)) (v:=.int h) (zap (j:=1) rfl) ?_
  walk_at "gs"
  refine zax (SqT.of (u0 _ _ hT2)) (v:=.ref b2) (zap (j:=2) rfl) ?_
  walk_at "gs"
  refine⟨zac,[(.inl h,.ref b2)],rfl,by simp,?_⟩
  have s23:Same H2 (upd (upd H2 dp (.dK [])) dp (.dK (zbz [] [(.inl h,.ref b2)]))):=u0.put hdp
  walk_at "gs"
  refine⟨dp,_,ch1 h l,rfl,zac,zj9 ok.1 (s23 _ _ hb2),λea H4 s4 ea0 hE=>?_⟩
  have s24:=s23.trans s4
  walk_at "gs"
  refine⟨aa,ea,A,zaC (ch1 h l),rfl,(hA.same s24).rep,hE.rep,by omega,λz hz=>⟨gA.2 z hz,zbK (zaN (λi=>zaQ i) (zc5 ok.2))⟩,zaE _,zaN (λi=>zak i) (zc5 ok.1),λv H5 s5 n5=>?_⟩
  have rv:=New.rep (K:=K) n5
  obtain⟨ga,rfl⟩:∃ b,v=.ref b:=by obtain⟨b,_,e,_⟩:=New.news n5;exact⟨b,e⟩
  have s25:=s24.trans s5
  walk_at "gs"
  refine⟨ga,na,_,N,rfl,rv,(hN2.same s25).rep,by simp;omega,by omega,λv H6 s6 n6=>?_⟩
  exact q _ _ (s02.trans (s25.trans s6)) (n6.back (s02.trans s25))
 | part h l b=>
  obtain⟨t',xs,et,hT2,px⟩:=za6 rx2
  cases et
  obtain⟨x0,r,rfl,e0,px⟩:=zam px
  obtain⟨x1,r,rfl,e1,px⟩:=zam px
  obtain⟨x2,r,rfl,e2,px⟩:=zam px
  obtain⟨x3,r,rfl,e3,px⟩:=zam px
  cases zbn px;cases zbw e0
  cases za9 e1
  obtain⟨b2,rfl,hb2⟩:=zb2 e2
  cases za9 e3
  with_reducible refine zaM (λQ2 q2=>?_) ?_
  ·walk_at "gs"
   rw[show decide (zb6 (Dd.part h l b) ="set")=false from k1]
   exact q2
  with_reducible refine zfn (λQ2 q2=>?_) (λNX=>?_)
  ·walk_at "gs"
   rw[decide_eq_true (show zb6 (Dd.part h l b) ="part" from rfl)]
   exact q2
  walk_at "gs"
  refine⟨t,na,aa,b2,h,b,l,N,A,rfl,SqT.of hT2,hb2,ok.1,ok.2,hN2,hA.rep,by omega,by omega,gA.2,λv H3 s3 n3=>?_⟩
  exact q _ _ (s02.trans s3) (n3.back s02)
 | draw h lo hi=>
  obtain⟨t',xs,et,hT2,px⟩:=za6 rx2
  cases et
  obtain⟨x0,r,rfl,e0,px⟩:=zam px
  obtain⟨x1,r,rfl,e1,px⟩:=zam px
  obtain⟨x2,r,rfl,e2,px⟩:=zam px
  obtain⟨x3,r,rfl,e3,px⟩:=zam px
  cases zbn px;cases zbw e0
  cases za9 e1
  cases za9 e2
  cases za9 e3
  with_reducible refine zaM (λQ2 q2=>?_) ?_
  ·walk_at "gs"
   rw[show decide (zb6 (Dd.draw h lo hi) ="set")=false from k2]
   exact q2
  with_reducible refine zaM (λQ2 q2=>?_) ?_
  ·walk_at "gs"
   rw[show decide (zb6 (Dd.draw h lo hi) ="part")=false from k3]
   exact q2
  with_reducible refine zfn (λQ2 q2=>?_) (λNX=>?_)
  ·walk_at "gs"
   rw[decide_eq_true (show zb6 (Dd.draw h lo hi) ="draw" from rfl)]
   exact q2
  walk_at "gs"
  refine⟨t,na,aa,h,lo,hi,N,A,rfl,SqT.of hT2,hN2,hA.rep,by omega,by omega,gA.2,λv H3 s3 n3=>?_⟩
  exact q _ _ (s02.trans s3) (n3.back s02)
 | turn l p2=>
  obtain⟨t',xs,et,hT2,px⟩:=za6 rx2
  cases et
  obtain⟨x0,r,rfl,e0,px⟩:=zam px
  obtain⟨x1,r,rfl,e1,px⟩:=zam px
  obtain⟨x2,r,rfl,e2,px⟩:=zam px
  cases zbn px;cases zbw e0
  obtain⟨b1,rfl,hb1⟩:=zb2 e1
  cases za9 e2
  with_reducible refine zaM (λQ2 q2=>?_) ?_
  ·walk_at "gs"
   rw[show decide (zb6 (Dd.turn l p2) ="set")=false from k4]
   exact q2
  with_reducible refine zaM (λQ2 q2=>?_) ?_
  ·walk_at "gs"
   rw[show decide (zb6 (Dd.turn l p2) ="part")=false from k5]
   exact q2
  with_reducible refine zaM (λQ2 q2=>?_) ?_
  ·walk_at "gs"
   rw[show decide (zb6 (Dd.turn l p2) ="draw")=false from k6]
   exact q2
  with_reducible refine zfn (λQ2 q2=>?_) (λNX=>?_)
  ·walk_at "gs"
   rw[decide_eq_true (show zb6 (Dd.turn l p2) ="turn" from rfl)]
   exact q2
  walk_at "gs"
  refine zax (SqT.of hT2) (v:=.ref b1) (zap (j:=1) rfl) ?_
  walk_at "gs"
  refine zax (SqT.of hT2) (v:=.int p2) (zap (j:=2) rfl) ?_
  walk_at "gs"
  refine due _ s02 ok.2.1 ok.2.2 λta H3 s3 ta0 hTh=>?_
  have gT:=hg.due p2
  have s03:=s02.trans s3
  walk_at "gs"
  refine⟨b1,na,ta,aa,l,N,_,A,rfl,s3 _ _ hb1,ok.1,hN2.same s3,hTh.rep,(hA.same s3).rep,by omega,by omega,by omega,λv H4 s4 n4=>?_⟩
  exact q _ _ (s03.trans s4) (n4.back s03)
 | hold l=>
  obtain⟨t',xs,et,hT2,px⟩:=za6 rx2
  cases et
  obtain⟨x0,r,rfl,e0,px⟩:=zam px
  obtain⟨x1,r,rfl,e1,px⟩:=zam px
  cases zbn px;cases zbw e0
  obtain⟨b1,rfl,hb1⟩:=zb2 e1
  with_reducible refine zaM (λQ2 q2=>?_) ?_
  ·walk_at "gs"
   rw[show decide (zb6 (Dd.hold l) ="set")=false from k7]
   exact q2
  with_reducible refine zaM (λQ2 q2=>?_) ?_
  ·walk_at "gs"
   rw[show decide (zb6 (Dd.hold l) ="part")=false from k8]
   exact q2
  with_reducible refine zaM (λQ2 q2=>?_) ?_
  ·walk_at "gs"
   rw[show decide (zb6 (Dd.hold l) ="draw")=false from k9]
   exact q2
  with_reducible refine zaM (λQ2 q2=>?_) ?_
  ·walk_at "gs"
   rw[show decide (zb6 (Dd.hold l) ="turn")=false from k10]
   exact q2
  with_reducible refine zfn (λQ2 q2=>?_) (λNX=>?_)
  ·walk_at "gs"
   rw[decide_eq_true (show zb6 (Dd.hold l) ="hold" from rfl)]
   exact q2
  walk_at "gs"
  refine zax (SqT.of hT2) (v:=.ref b1) (zap (j:=1) rfl) ?_
  walk_at "gs"
  refine⟨zag (by simp),λp3 hp3=>?_⟩
  have t3:=zae hp3 (.lst [V.ref b1])
  walk_at "gs"
  refine⟨p3,na,[l],N,rfl,zcv (bs:=[b1]) zac rfl (zdd (t3 _ _ hb1)),(hN2.same t3).rep,by simp,by omega,λv1 H3 s3 n3=>?_⟩
  have s23:=t3.trans s3
  walk_at "gs"
  refine zax (SqT.of (s23 _ _ hT2)) (v:=.ref b1) (zap (j:=1) rfl) ?_
  walk_at "gs"
  refine⟨zag (by simp),λp5 hp5=>?_⟩
  have t5:=zae hp5 (.lst [V.ref b1])
  obtain⟨xs,hxs,lxs⟩:=(hN2.same s23).len
  walk_at "gs"
  refine zbk (t5 _ _ hxs) zac (zag (by simp;omega)) λp6 hp6=>?_
  have hL6:=Ls.more (p:=p6) (bs:=[b1]) (ms:=[l]) ((hN2.same s23).same t5) (t5 _ _ hxs) rfl (zdd (t5 _ _ (s23 _ _ hb1))) hp6
  have t6:=zae hp6 (.lst (xs++[V.ref b1]))
  have t56:=t5.trans t6
  walk_at "gs"
  refine⟨aa,p6,A,N++[l],rfl,(hA.same (s23.trans t56)).rep,hL6.rep,by omega,by simp;omega,λv2 H4 s4 n4=>?_⟩
  obtain⟨a1,vs1,f1,rfl,z1,y1,r1,_⟩:=New.lst_out n3
  obtain⟨a2,vs2,f2,rfl,z2,y2,r2,_⟩:=New.lst_out n4
  have l1:=r1.length
  have l2:=r2.length
  simp only[zlm] at l1 l2
  have sD:=t56.trans s4
  walk_at "gs"
  refine zbk (sD _ _ y1) y2 (zag (by simp at l1;omega)) λp7 hp7=>?_
  exact q _ _ ((s02.trans (s23.trans sD)).trans (zae hp7 _)) (New.cat (n3.back (s02.trans t3)) (s02.trans s23) sD (n4.back t56) (sD _ _ y1) y2 hp7)
 | call m g0 g1 t0 t1=>
  obtain⟨t',xs,et,hT2,px⟩:=za6 rx2
  cases et
  obtain⟨x0,r,rfl,e0,px⟩:=zam px
  obtain⟨x1,r,rfl,e1,px⟩:=zam px
  obtain⟨x2,r,rfl,e2,px⟩:=zam px
  obtain⟨x3,r,rfl,e3,px⟩:=zam px
  cases zbn px;cases zbw e0
  cases za9 e1
  obtain⟨b2,rfl,hb2⟩:=zdO e2
  obtain⟨b3,rfl,hb3⟩:=zdO e3
  with_reducible refine zaM (λQ2 q2=>?_) ?_
  ·walk_at "gs"
   rw[show decide (zb6 (Dd.call m g0 g1 t0 t1) ="set")=false from k11]
   exact q2
  with_reducible refine zaM (λQ2 q2=>?_) ?_
  ·walk_at "gs"
   rw[show decide (zb6 (Dd.call m g0 g1 t0 t1) ="part")=false from k12]
   exact q2
  with_reducible refine zaM (λQ2 q2=>?_) ?_
  ·walk_at "gs"
   rw[show decide (zb6 (Dd.call m g0 g1 t0 t1) ="draw")=false from k13]
   exact q2
  with_reducible refine zaM (λQ2 q2=>?_) ?_
  ·walk_at "gs"
   rw[show decide (zb6 (Dd.call m g0 g1 t0 t1) ="turn")=false from k14]
   exact q2
  with_reducible refine zaM (λQ2 q2=>?_) ?_
  ·walk_at "gs"
   rw[show decide (zb6 (Dd.call m g0 g1 t0 t1) ="hold")=false from k15]
   exact q2
  obtain⟨o,od,ons,hv,hO,hgo⟩:=hcl
  walk_at "gs"
  refine zax (SqT.of hT2) (v:=.int m) (zap (j:=1) rfl) ?_
  walk_at "gs"
  refine⟨ca,.ref o,rfl,by rw[←hv];exact DGet.k (k:=.inl m) (s02 _ _ hca),?_⟩
  walk_at "gs"
  refine⟨t,na,aa,o,b2,b3,m,g0,g1,t0,t1,N,A,_,_,od,ons,rfl,SqT.of hT2,SqT.of hb2,SqT.of hb3,hN2,hA.rep,by omega,by omega,gN.2,gA.2,hO.same s02,hgo,λv H3 s3 n3=>?_⟩
  exact q _ _ (s02.trans s3) (n3.back s02)
def zdV (K:Fg) (C:Nat→Addr):Sp:=λvs H Q E=>∃ (p ca:Addr) (needs leaves:List (List Int)) (deeds:List Dd) (notes:List (List (List Int))) (kvs:List (Key × V)) (oath:Oath),vs=[.ref p,.ref ca]∧zdm K (C 0) H p needs leaves deeds notes∧Good needs leaves deeds.length notes∧(∀ d∈deeds,dOk deeds.length d)∧H ca=some (.dK kvs)∧(∀ m∈za7 deeds,m.natAbs<zcX)∧
  (((∃ m∈za7 deeds,valV kvs (.inl m)=none)∧∀ H',Same H H'→E (.ref (C 2)) none H')∨
   ((∀ m∈za7 deeds,(valV kvs (.inl m)).isSome=true)∧(∀ d∈deeds,ziF K (C 0) H kvs oath d)∧(zeT needs leaves deeds notes oath).length≤1000∧∀ v H',Same H H'→New H H' (.lst (zeT needs leaves deeds notes oath)) v→Q v H'))
theorem zka {f:Addr}{fd:FuncData}(B:Bl K mg) {C:Nat→Addr}(Z:Zt K mg C) (G_called_by:Fn P w K mg base "called_by" ["craft"] 1 (zel K C)) (G_first_duties:Fn P w K mg base "first_duties" ["craft"] 4 (zc6 K C)) (G_deed_duties:Fn P w K mg base "deed_duties" ["craft","place","crafts"] 5 (zdt K C)) (F:Fun K "duties" "duties" s_duties f fd) (m:mg "duties"=some (.ref f)):Fnx P w K mg base "duties" ["craft","crafts"] 6 (zdV K C):=by
 refine⟨f,fd,F.okx (k:=5) zdT (λvs H Q E h=>?_) (λcdv A outer s H vs Q E hr h=>?_),F.binds λ_ _ _ _ _ _ us hl=>match us,hl with | [_,_],_=>rfl,F.kp,m⟩
 ·first
  | (obtain⟨_,_,_,_,_,_,_,_,rfl,_⟩:=h;rfl)
 obtain⟨p,ca,needs,leaves,deeds,notes,kvs,oath,rfl,hT,hg,hok,hca,hm,hc⟩:=h
 refine⟨_,(zah (zcK PassesOwn.leaving rfl (za3 K (zao G_called_by hr rfl (zad (pv 0) zaa))) (zas (i:=2) zdT.nd rfl (Or.inl rfl)) (zal (zbB (zmy (zjt (hr_u hr) (pv 2) (pv 1))) (zal (zkN Z.e_Unmet rfl Z.m_Unmet rfl zl6 (zbq (pe_fs (pv 2) (by decide +kernel) (by decide +kernel)) zaa))) zaP)))
   (zah (zaB (i:=3) zdT.nd rfl (Or.inl rfl) (zao G_first_duties hr rfl (zad (pv 0) zaa)))
   (zah (zcK PassesOwn.leaving rfl (zbd rfl B.range (zaz (zaK (zep K) rfl B.len L2.boot_len (zdB (zeM K (pv 0) rfl) zaa)) zaa)) (zas (i:=4) zdT.nd rfl (Or.inl rfl)) (zal (zi4 (zmY PySem.F.plainAttrs_list PySem.F.slot_list_extend PySem.F.type_list_extend zjo (pv 3) (zaz (zao G_deed_duties hr rfl (zad (pv 0) (zad (pv 4) (zad (pv 1) zaa)))) zaa)))))
   (zal (zaA (pv 3)))))),?_⟩
 have hT0:=hT
 obtain⟨hC,dx,w1,w2,bd,w4,dvs,hp,hbd,hD⟩:=hT
 walk_at "q"
 walk_at "gs"
 refine⟨p,dx,bd,w1,w2,w4,dvs,deeds,rfl,hp,hbd,hD,by have:=hg.d;omega,λv H1 s1 n1=>?_⟩
 obtain⟨la,rfl,la0,la1⟩:=New.ints_iff.mp n1
 have lc:(za7 deeds).length≤deeds.length:=List.length_filterMap_le _ _
 refine⟨la,rfl,⟨_,SqL.of la1⟩,?_⟩
 refine zhi (zaV (SqL.of la1)) (λi σ H2=>∃ x,σ=[some (.ref p),some (.ref ca),x,none,none]∧Same H1 H2∧∀ m∈(za7 deeds).take i,(valV kvs (.inl m)).isSome=true)
  ⟨none,rfl,Same.refl _,λm hm=>by simp at hm⟩ (λi σ H2 ⟨_,_,e,_⟩=>e) ?_ ?_
 ·rintro i v σ H2 H3 hi ⟨x,rfl,s2,hpre⟩ s3 hv
  rw[zgm] at hv
  obtain⟨m,hm',rfl⟩:=zme.mp hv
  have mm:=zmg hm'
  have s03:=s1.trans (s2.trans s3)
  walk_at "gs"
  refine⟨ca,_,rfl,DGet.k (k:=.inl m) (s03 _ _ hca),?_⟩
  cases hv':valV kvs (.inl m) with
  | none=>
   walk_at "gs"
   refine zir (λ_=>?_) (λz=>by cases z)
   walk_at "gs"
   refine⟨hm m mm,λz=>?_⟩
   walk_at "gs"
   refine⟨zag (by simp),?_⟩
   rcases hc with ⟨_,hE⟩ | ⟨hB,_⟩
   ·exact hE _ s03
   ·have:=hB m mm
    rw[hv'] at this;cases this
  | some y=>
   walk_at "gs"
   refine zir (λz=>by cases z) (λ_=>?_)
   walk_at "gs"
   refine⟨_,rfl,s2.trans s3,λk hk=>?_⟩
   rw[List.take_add_one,hm'] at hk
   rcases zma.mp hk with hk | hk
   ·exact hpre k hk
   ·simp at hk;subst hk;rw[hv'];rfl
 rintro σ H2 ⟨x,rfl,s2,hall⟩
 rw[zlm,List.take_of_length_le (Nat.le_refl _)] at hall
 rcases hc with ⟨⟨m,mm,hn⟩,_⟩ | ⟨_,hcl,hlen,q⟩
 ·have:=hall m mm
  rw[hn] at this;cases this
 have s02:=s1.trans s2
 walk_at "q"
 walk_at "gs"
 refine⟨p,needs,leaves,deeds.map toD,notes,rfl,hC.same s02,by rw[zlm];exact hg,λv H3 s3 n3=>?_⟩
 have s03:=s02.trans s3
 obtain⟨ta,tvs,rfl,ta0,ac⟩:=(n3.back s02).acc
 walk_at "gs"
 walk_at "q"
 walk_at "gs"
 refine⟨p,(C 0),dx,_,_,rfl,s03 _ _ hp,Z.c_Craft,Z.n_Craft_deeds,zdS _ _ _ _,?_⟩
 walk_at "gs"
 refine zd5 (.inl (SqL.of (s03 _ _ hbd))) ?_
 rw[←hD.1]
 refine zbQ (by omega) (by have:=hg.d;omega) ?_
 refine zfI (λi σ H4=>∃ x y vs,i≤deeds.length∧σ=[some (.ref p),some (.ref ca),x,some (.ref ta),y]∧Same H H4∧Free H H4∧Acc H ta H4 (zgK needs leaves notes++za5 leaves notes oath (deeds.take i) 0) vs)
  ⟨_,none,tvs,Nat.zero_le _,rfl,s03,s03.fr,by rw[List.take_zero];show Acc H ta H3 (_++[]) tvs;rw[List.append_nil];exact ac⟩ ?_ ?_
 ·rintro i σ H4 hi ⟨x',y,vs,him,rfl,s4,f4,ac4⟩
  have hi':i<deeds.length:=by have:i<((deeds.length:Int)).toNat:=hi;omega
  have eT:deeds=deeds.take i++deeds[i]::deeds.drop (i+1):=by rw[List.getElem_cons_drop,List.take_append_drop]
  have eS:deeds.take (i+1)=deeds.take i++[deeds[i]]:=by rw[List.take_add_one,List.getElem?_eq_getElem hi'];rfl
  have step:za5 leaves notes oath (deeds.take (i+1)) 0=za5 leaves notes oath (deeds.take i) 0++zdQ (dueL leaves notes i) (dueL leaves notes ((i:Int)+1)) (dueL leaves notes) oath deeds[i]:=by
   rw[eS,zdE]
   congr 1
   show zdQ _ _ _ _ _++[]=_
   rw[List.append_nil,List.length_take,Nat.zero_add,Nat.min_eq_left (by omega)]
  have short:(zgK needs leaves notes++za5 leaves notes oath (deeds.take (i+1)) 0).length≤1000:=by
   refine Nat.le_trans ?_ hlen
   unfold zeT
   have:=zdE leaves notes oath (deeds.take (i+1)) (deeds.drop (i+1)) 0
   rw[List.take_append_drop] at this
   rw[this]
   simp only[List.length_append];omega
  walk_at "gs"
  refine⟨tyL ac4.get,?_⟩
  walk_at "gs"
  rw[Int.zero_add]
  refine⟨p,ca,i,needs,leaves,deeds,notes,kvs,oath,deeds[i],rfl,zdm.same s4 hT0,hg,List.getElem?_eq_getElem hi',hok _ (List.getElem_mem hi'),s4 _ _ hca,(hcl _ (List.getElem_mem hi')).same s4,λv H5 s5 n5=>?_⟩
  obtain⟨b,zs,rfl,b0,ab⟩:=n5.acc
  have lz:=ab.len
  have lv:=ac4.len
  walk_at "gs"
  refine⟨ta,b,vs,zs,rfl,rfl,s5 _ _ ac4.get,ab.get,?_,?_⟩
  ·rw[step] at short
   simp only[List.length_append] at short lv
   exact zag (by omega)
  ·refine⟨_,_,vs++zs,hi',rfl,(s4.trans s5).put ta0,f4.trans (s5.fr.trans zev),?_⟩
   rw[step,←List.append_assoc]
   exact ac4.ext f4 s5 n5 ab.get
 ·rintro σ H4 ⟨x',y,vs,him,rfl,s4,f4,ac4⟩
  walk_at "gs"
  refine q _ _ s4 ?_
  rw[show ((deeds.length:Int)).toNat=deeds.length by omega,List.take_of_length_le (Nat.le_refl _)] at ac4
  exact ac4.new ta0
def zdg (K:Fg):Sp:=λvs H Q _=>∃ c k m:Int,vs=[.int c,.int k,.int m]∧0<m∧Q (.int (mix c k m)) H
theorem zdW {H:Hp}{Q:VK}{E:XK}{c k m:Int}(h:0<m) (q:Q (.int (mix c k m)) H):zdg K [.int c,.int k,.int m] H Q E:=⟨c,k,m,rfl,h,q⟩
theorem zk2 {f:Addr}{fd:FuncData}(B:Bl K mg) {C:Nat→Addr}(Z:Zt K mg C)  (F:Fun K "_law_mix" "_law_mix" s_l_mix f fd) (m:mg "_law_mix"=some (.ref f)):Fn P w K mg base "_law_mix" ["cell","k","many"] 1 (zdg K):=by
 refine Fn.of (k:=0) F zkZ m (λ_ _ _ _ _ _ us hl=>match us,hl with | [_,_,_],_=>rfl) (λvs H Q E h=>?_) (λcdv A outer s H vs Q E hr h=>?_)
 ·first
  | (obtain⟨_,_,_,rfl,_⟩:=h;rfl)
 obtain⟨c,k,m,rfl,hm,q⟩:=h
 refine⟨_,(zal (zaA (zau zcQ (zau zdw (zau zcQ (zau zbi (zau (zaF K) (zau zcQ (pv 0) zab) zab) (zau (zaF K) zab (zau zbi zab (pv 1)))) zab) zab) (pv 2)))),?_⟩
 have h1:=Int.emod_nonneg c (show (2147483647:Int)≠0 by decide)
 have h2:=Int.emod_lt_of_pos c (show (0:Int)<2147483647 by decide)
 walk_at "go"
 exact q
def zcG (K:Fg):Sp:=λvs H Q _=>∃ c k:Int,vs=[.int c,.int k]∧∀ H',Same H H'→Q (.int (number c k)) H'
theorem zfY {H:Hp}{Q:VK}{E:XK}{c k:Int}(q:∀ H',Same H H'→Q (.int (number c k)) H'):zcG K [.int c,.int k] H Q E:=⟨c,k,rfl,q⟩
theorem zhv {f:Addr}{fd:FuncData}(B:Bl K mg) {C:Nat→Addr}(Z:Zt K mg C) (G_l_mix:Fn P w K mg base "_law_mix" ["cell","k","many"] 1 (zdg K)) (F:Fun K "_law_number" "_law_number" s_l_number f fd) (m:mg "_law_number"=some (.ref f)):Fn P w K mg base "_law_number" ["cell","k"] 2 (zcG K):=by
 refine Fn.of (k:=1) F zeW m (λ_ _ _ _ _ _ us hl=>match us,hl with | [_,_],_=>rfl) (λvs H Q E h=>?_) (λcdv A outer s H vs Q E hr h=>?_)
 ·first
  | (obtain⟨_,_,rfl,_⟩:=h;rfl)
 obtain⟨c,k,rfl,q⟩:=h
 refine⟨_,(zah (zaB (i:=2) zeW.nd rfl (Or.inl rfl) (zao G_l_mix hr rfl (zad (pv 0) (zad (pv 1) (zai zab zaa)))))
   (zah (zbB (zaR (k_eq K hr) (pv 2) zab (za1 _)) (zal (zaA (zau zex (zau zcQ (pv 0) (zau (zaF K) (zau zbi zab (zau zhI zab zab)) zab)) (zau zhI zab zab)))) zaP)
   (zah (zbB (zaR (k_eq K hr) (pv 2) zab (za1 _)) (zal (zaA (zav (k_ix K) (zaH (zaU (zau zhI zab zab) (zfa (zdG zch (zau zhI zab zab)) (zai zab (zfa (zdG zch zab) zaa))))) (zao G_l_mix hr rfl (zad (pv 0) (zaU (zau (zaF K) (pv 1) zab) (zai zab zaa)))) (λ_ _=>rfl)))) zaP)
   (zal (zaA (zau zex (zao G_l_mix hr rfl (zad (pv 0) (zaU (zau (zaF K) (pv 1) zab) (zai zab zaa)))) zab)))))),?_⟩
 have n1:=zbl (c:=c) (k:=k+1) (m:=4) (by decide)
 have n2:=zdM (c:=c) (k:=k+1) (m:=4) (by decide)
 walk_at "go"
 refine zdW (by decide) ?_
 walk_at "go"
 refine ite2 (λe=>?_) (λe=>?_)
 ·have e':mix c k 9=0:=of_decide_eq_true e
  walk_at "go"
  have q':=q H (Same.refl H)
  unfold number at q'
  rw[if_pos e'] at q'
  exact q'
 ·have e':¬ mix c k 9=0:=of_decide_eq_false (Bool.eq_false_iff.mpr e)
  walk_at "go"
  refine ite2 (λe2=>?_) (λe2=>?_)
  ·have e2':mix c k 9=1:=of_decide_eq_true e2
   walk_at "go"
   refine⟨by decide,λp hp=>?_⟩
   walk_at "go"
   refine zdW (by decide) ?_
   have q':=q (upd H p (.lst [.int 1000000000,.int (-1000000000),.int 999999999,.int (-999999999)])) (zae hp _)
   unfold number at q'
   rw[if_neg e',if_pos e2'] at q'
   refine zbE (SqL.of zac) ?_ q'
   have c4:mix c (k+1) 4=0∨mix c (k+1) 4=1∨mix c (k+1) 4=2∨mix c (k+1) 4=3:=by omega
   rcases c4 with z | z | z | z <;> rw[z] <;> rfl
  ·have e2':¬ mix c k 9=1:=of_decide_eq_false (Bool.eq_false_iff.mpr e2)
   walk_at "go"
   refine zdW (by decide) ?_
   walk_at "go"
   have q':=q H (Same.refl H)
   unfold number at q'
   rw[if_neg e',if_neg e2'] at q'
   exact q'
def zcp (K:Fg):Sp:=λvs H Q _=>∃ (c:Int) (za:Addr) (zs:List Int),vs=[.int c,.ref za]∧SqL K H za (zs.map V.int)∧∀ v H',Same H H'→New H H' (nums (zbS c zs)) v→Q v H'
theorem zkb (zs:List Int):(zs.map V.int).all zdh=true:=by rw[List.all_map,List.all_eq_true];intro x _;rfl
theorem zgW {f:Addr}{fd:FuncData}(B:Bl K mg) {C:Nat→Addr}(Z:Zt K mg C) (G_l_number:Fn P w K mg base "_law_number" ["cell","k"] 2 (zcG K)) (G_l_mix:Fn P w K mg base "_law_mix" ["cell","k","many"] 1 (zdg K)) (F:Fun K "_law_line_by" "_law_line_by" s_l_line_by f fd) (m:mg "_law_line_by"=some (.ref f)):Fn P w K mg base "_law_line_by" ["cell","zero"] 3 (zcp K):=by
 refine Fn.of (k:=2) F zc2 m (λ_ _ _ _ _ _ us hl=>match us,hl with | [_,_],_=>rfl) (λvs H Q E h=>?_) (λcdv A outer s H vs Q E hr h=>?_)
 ·first
  | (obtain⟨_,_,_,rfl,_⟩:=h;rfl)
 obtain⟨c,za,zs,rfl,hZ,q⟩:=h
 refine⟨_,(zah (zbb (i:=2) zc2.nd rfl rfl rfl (CompOk.m (sc0:=zaf s_l_line_by) (N:=["cell","zero","line","k"]) (N':=["cell","zero","line","k"]) (ms:=[false,false,false,true])) (zbd rfl B.range (zai zab zaa)) (λ_ _ _ _ _=>(zas (i:=3) (ndS (N:=["cell","zero","line","k"])) rfl (Or.inl rfl))) (λ_ _ _ _ _=>zaJ) (λ_ _ _ _ _=>(zao G_l_number hr rfl (zad (pv 0) (zaU (zau zbi zab (pv 3)) zaa)))))
   (zah (zcK PassesOwn.never rfl (zbd rfl B.range (zai zab zaa)) (zas (i:=3) zc2.nd rfl (Or.inl rfl)) (zal (zbB (PW.pt (zia (zaR (k_in K) (pv 3) (pv 1) rfl) (zf5 (zaR (k_eq K hr) (zao G_l_mix hr rfl (zad (pv 0) (zaU (zau (zaF K) zab (pv 3)) (zai zab zaa)))) zab (za1 _))))) (zal (zew zab (zfi (pv 2) (zau (zaF K) (pv 3) zab) zda))) zaP)))
   (zal (zaA (pv 2))))),?_⟩
 walk_at "go"
 refine zbQ (by decide) (by decide) ?_
 refine zaO (n:=9) zbo (((List.range 9).map λ(j:Nat)=>number c (5 * (0+(j:Int)))).map D.int) (by simp) (by decide) (λi x d H1 R hi hd s1 hx hR=>?_) (λv H1 s1 n1=>?_)
 ·subst hx
  rw[List.map_map] at hd
  have hd':=zbR hd
  subst hd'
  walk_at "go"
  refine zfY λH2 s2=>?_
  exact hR _ _ s2 New.int
 obtain⟨la,rfl,la0,la1⟩:=New.ints_iff.mp n1
 rw[←ziu c zs] at la1
 walk_at "go"
 refine zbQ (by decide) (by decide) ?_
 refine zfI (λi σ H2=>∃ x,i≤8∧σ=[some (.int c),some (.ref za),some (.ref la),x]∧Same H H2∧H2 la=some (.lst ((zcY c zs i).map V.int)))
  ⟨none,by decide,rfl,s1,la1⟩ ?_ ?_
 ·rintro i σ H2 hi ⟨x,_,rfl,s2,e2⟩
  have i8:i<8:=hi
  have step:∀ b:Bool,zeq c zs i=b→(b=true→(ixN ((zcY c zs i).map V.int).length (0+(i:Int)+1)=some (i+1))):=λb hb _=>by
   rw[zlm,zgA]
   unfold ixN
   rw[if_pos (by omega),if_pos (by omega)]
   congr 1
   omega
  have yes:zeq c zs i=true→∃ x,i+1≤8∧[some (V.int c),some (.ref za),some (.ref la),some (.int (0+(i:Int)))]=[some (.int c),some (.ref za),some (.ref la),x]∧Same H (upd H2 la (.lst (((zcY c zs i).map V.int).set (i+1) (.int 0))))∧(upd H2 la (.lst (((zcY c zs i).map V.int).set (i+1) (.int 0)))) la=some (.lst ((zcY c zs (i+1)).map V.int)):=λhb=>by
   refine⟨_,by omega,rfl,λd o e=>?_,?_⟩
   ·rw[zaw (zaY e la0)];exact s2 _ _ e
   ·rw[zac,←zjS i8 hb,List.map_set]
  walk_at "go"
  refine i_in (neg:=false) (.inl (s2.seq hZ)) rfl (zkb zs) ?_
  cases hb1:inV (.int (0+(i:Int))) (zs.map V.int) with
  | true=>
   have hb:zeq c zs i=true:=by unfold zeq;rw[hb1];rfl
   show ∃ k,V.bl true=.bl k∧_
   walk_at "go"
   refine zeK e2 (step true hb rfl) ?_
   exact yes hb
  | false=>
   show ∃ k,V.bl false=.bl k∧_
   walk_at "go"
   refine zdW (by decide) ?_
   walk_at "go"
   cases hb2:decide (mix c (60+(0+(i:Int))) 3=0) with
   | true=>
    have hb:zeq c zs i=true:=by unfold zeq;rw[hb1,hb2];rfl
    walk_at "go"
    refine zeK e2 (step true hb rfl) ?_
    exact yes hb
   | false=>
    have hb:zeq c zs i=false:=by unfold zeq;rw[hb1,hb2];rfl
    walk_at "go"
    exact⟨_,by omega,rfl,s2,by rw[←zit hb];exact e2⟩
 ·rintro σ H2 ⟨x,_,rfl,s2,e2⟩
  walk_at "go"
  refine q _ _ s2 (New.ints_iff.mpr ⟨la,rfl,la0,?_⟩)
  rw[←zjT]
  exact e2
def zdX (K:Fg):Sp:=λvs H Q _=>∃ (c:Int) (za:Addr) (zs:List Int),vs=[.int c,.ref za]∧SqL K H za (zs.map V.int)∧∀ v H',Same H H'→New H H' (zaI (zcZ c zs)) v→Q v H'
theorem zfZ {f:Addr}{fd:FuncData}(B:Bl K mg) {C:Nat→Addr}(Z:Zt K mg C) (G_l_line_by:Fn P w K mg base "_law_line_by" ["cell","zero"] 3 (zcp K)) (G_l_mix:Fn P w K mg base "_law_mix" ["cell","k","many"] 1 (zdg K)) (F:Fun K "_law_lines_by" "_law_lines_by" s_l_lines_by f fd) (m:mg "_law_lines_by"=some (.ref f)):Fn P w K mg base "_law_lines_by" ["cell","zero"] 4 (zdX K):=by
 refine Fn.of (k:=3) F zfU m (λ_ _ _ _ _ _ us hl=>match us,hl with | [_,_],_=>rfl) (λvs H Q E h=>?_) (λcdv A outer s H vs Q E hr h=>?_)
 ·first
  | (obtain⟨_,_,_,rfl,_⟩:=h;rfl)
 obtain⟨c,za,zs,rfl,hZ,q⟩:=h
 refine⟨_,(zal (zaA (zbf rfl (CompOk.m (sc0:=zaf s_l_lines_by) (N:=["cell","zero"]) (N':=["cell","zero","k"]) (ms:=[false,false,true])) (zbd rfl B.range (zaz (zao G_l_mix hr rfl (zad (pv 0) (zai zab (zai zab zaa)))) zaa)) (λ_ _ _ _ _=>(zas (i:=2) (ndS (N:=["cell","zero","k"])) rfl (Or.inl rfl))) (λ_ _ _ _ _=>zaJ) (λ_ _ _ _ _=>(zao G_l_line_by hr rfl (zaU (zau (zaF K) (pv 0) (zau zbi zab (pv 2))) (zad (pv 1) zaa))))))),?_⟩
 have h1:=zbl (c:=c) (k:=20) (m:=3) (by decide)
 have h2:=zdM (c:=c) (k:=20) (m:=3) (by decide)
 walk_at "go"
 refine zdW (by decide) ?_
 walk_at "go"
 refine zbQ (by omega) (by omega) ?_
 refine zaO zbo ((zcZ c zs).map nums) (by simp[zcZ]) (zag (by omega)) (λi x d H1 R hi hd s1 hx hR=>?_) (λv H1 s1 n1=>?_)
 ·subst hx
  unfold zcZ at hd
  rw[List.map_map] at hd
  have hd':=zbR hd
  subst hd'
  walk_at "go"
  refine⟨_,za,zs,rfl,s1.seq hZ,λv H2 s2 n2=>?_⟩
  exact hR _ _ s2 n2
 exact q _ _ s1 n1
def zcq (K:Fg):Sp:=λvs H Q _=>∃ (a:Addr) (k:Int) (ns:List Int),vs=[.ref a,.int k]∧SqL K H a (ns.map V.int)∧0≤k∧Q (.int (cell ns k)) H
theorem zdY {H:Hp}{Q:VK}{E:XK}{a:Addr}{k:Int}{ns:List Int}(h:SqL K H a (ns.map V.int)) (hk:0≤k) (q:Q (.int (cell ns k)) H):zcq K [.ref a,.int k] H Q E:=⟨a,k,ns,rfl,h,hk,q⟩
theorem zgX {f:Addr}{fd:FuncData}(B:Bl K mg) {C:Nat→Addr}(Z:Zt K mg C)  (F:Fun K "_law_cell_at" "_law_cell_at" s_l_cell_at f fd) (m:mg "_law_cell_at"=some (.ref f)):Fn P w K mg base "_law_cell_at" ["script","k"] 1 (zcq K):=by
 refine Fn.of (k:=0) F zgR m (λ_ _ _ _ _ _ us hl=>match us,hl with | [_,_],_=>rfl) (λvs H Q E h=>?_) (λcdv A outer s H vs Q E hr h=>?_)
 ·first
  | (obtain⟨_,_,_,rfl,_⟩:=h;rfl)
 obtain⟨a,k,ns,rfl,hS,hk,q⟩:=h
 refine⟨_,(zah (zbB (zaR zmJ (pv 1) (zaK (zep K) rfl B.len L2.boot_len (zad (pv 0) zaa)) (za1 _)) (zal (zaA (zav (k_ix K) (pv 0) (pv 1) (λ_ _=>rfl)))) zaP)
   (zal (zaA zab))),?_⟩
 walk_at "go"
 refine zd5 (.inl hS) ?_
 walk_at "go"
 rw[zlm]
 unfold cell at q
 refine ite2 (λe=>?_) (λe=>?_)
 ·have e':k<(ns.length:Int):=of_decide_eq_true e
  walk_at "go"
  have hl:k.toNat<ns.length:=by omega
  refine zbE hS (v:=.int (ns.getD k.toNat 0)) ?_ q
  have z:atI (ns.map V.int) ((k.toNat:Nat):Int)=some (.int (ns.getD k.toNat 0)):=zap (by simp[hl])
  rwa [show ((k.toNat:Nat):Int)=k by omega] at z
 ·have e':¬ k<(ns.length:Int):=of_decide_eq_false (Bool.eq_false_iff.mpr e)
  walk_at "go"
  have hl:ns.getD k.toNat 0=0:=by simp[List.getD,List.getElem?_eq_none (show ns.length≤k.toNat by omega)]
  rw[hl] at q
  exact q
def zem (K:Fg):Sp:=λvs H Q _=>∃ c count:Int,vs=[.int c,.int count]∧0≤count∧∀ v H',Same H H'→New H H' (zjV c count) v→Q v H'
theorem zgY {f:Addr}{fd:FuncData}(B:Bl K mg) {C:Nat→Addr}(Z:Zt K mg C) (G_l_line_by:Fn P w K mg base "_law_line_by" ["cell","zero"] 3 (zcp K)) (G_l_mix:Fn P w K mg base "_law_mix" ["cell","k","many"] 1 (zdg K)) (G_l_number:Fn P w K mg base "_law_number" ["cell","k"] 2 (zcG K)) (F:Fun K "_law_deed_by" "_law_deed_by" s_l_deed_by f fd) (m:mg "_law_deed_by"=some (.ref f)):Fn P w K mg base "_law_deed_by" ["cell","count"] 4 (zem K):=by
 refine Fn.of (k:=3) F zbO m (λ_ _ _ _ _ _ us hl=>match us,hl with | [_,_],_=>rfl) (λvs H Q E h=>?_) (λcdv A outer s H vs Q E hr h=>?_)
 ·first
  | (obtain⟨_,_,rfl,_⟩:=h;rfl)
 obtain⟨c,count,rfl,hc,q⟩:=h
 refine⟨_,(zah (zaB (i:=2) zbO.nd rfl (Or.inl rfl) (zao G_l_line_by hr rfl (zaU (zau zdw (pv 0) zab) (zbh (zaH (zai zab (zai zab zaa))) zaa))))
   (zah (zaB (i:=3) zbO.nd rfl (Or.inl rfl) (zao G_l_mix hr rfl (zad (pv 0) (zai zab (zai zab zaa)))))
   (zah (zaB (i:=4) zbO.nd rfl (Or.inl rfl) (zao G_l_mix hr rfl (zad (pv 0) (zai zab (zai zab zaa)))))
   (zah (zbB (zaR (k_eq K hr) (pv 4) zab (za1 _)) (zal (zaA (zbg (zai zbN (zad (pv 3) (zad (pv 2) zaa)))))) zaP)
   (zah (zbB (zaR (k_eq K hr) (pv 4) zab (za1 _)) (zal (zaA (zbg (zai zbN (zad (pv 3) (zad (pv 2) (zaT (zav (k_ix K) (zaH (zai zab (zai zab (zaU (zau (zaF K) zab (zao G_l_mix hr rfl (zad (pv 0) (zai zab (zai zab zaa))))) (zai zab zaa))))) (zao G_l_mix hr rfl (zad (pv 0) (zai zab (zai zab zaa)))) (λ_ _=>rfl)) zaa))))))) zaP)
   (zah (zbB (zaR (k_eq K hr) (pv 4) zab (za1 _)) (zah (zaB (i:=5) zbO.nd rfl (Or.inl rfl) (zao G_l_number hr rfl (zaU (zau zdw (pv 0) zab) (zai zab zaa))))
   (zal (zaA (zbg (zai zbN (zad (pv 3) (zad (pv 5) (zaz (zaK (znf rfl) rfl B.max L2.zhV (zad (pv 5) (zaz (zao G_l_number hr rfl (zaU (zau zdw (pv 0) zab) (zai zab zaa))) zaa))) zaa)))))))) zaP)
   (zah (zbB (zaR (k_eq K hr) (pv 4) zab (za1 _)) (zal (zaA (zbg (zai zbN (zad (pv 2) (zaz (zao G_l_mix hr rfl (zad (pv 0) (zai zab (zaU (zau (zaF K) (pv 1) zab) zaa)))) zaa)))))) zaP)
   (zah (zbB (zaR (k_eq K hr) (pv 4) zab (za1 _)) (zal (zaA (zbg (zai zbN (zad (pv 2) zaa))))) zaP)
   (zah (zaB (i:=6) zbO.nd rfl (Or.inl rfl) (zbg (zaz (zao G_l_mix hr rfl (zad (pv 0) (zai zab (zai zab zaa)))) (zaz (zao G_l_mix hr rfl (zad (pv 0) (zai zab (zai zab zaa)))) zaa))))
   (zal (zaA (zbg (zai zbN (zaz (zao G_l_mix hr rfl (zad (pv 0) (zai zab (zai zab zaa)))) (zad (pv 6) (zb7 (zbg (zad (pv 3) (zaU (zau zcQ (zau (zaF K) (zau (zaF K) (pv 3) zab) (zao G_l_mix hr rfl (zad (pv 0) (zai zab (zai zab zaa))))) zab) zaa))) zaa)))))))))))))))),?_⟩
 have k0:=zbl (c:=c) (k:=6) (m:=4) (by decide)
 have k1:=zdM (c:=c) (k:=6) (m:=4) (by decide)
 unfold zjV at q
 walk_at "go"
 refine⟨by decide,λp hp=>?_⟩
 walk_at "go"
 refine⟨_,p,[6,7],rfl,SqL.of zac,λv H1 s1 n1=>?_⟩
 obtain⟨la,rfl,la0,la1⟩:=New.ints_iff.mp n1
 have s0:=(zae hp (.lst [.int 6,.int 7])).trans s1
 have la2:H la=none:=(zae hp _).free la0
 walk_at "go"
 refine zdW (by decide) ?_
 walk_at "go"
 refine zdW (by decide) ?_
 walk_at "go"
 refine ite2 (λe=>?_) (λe=>?_)
 ·have e':mix c 4 6=0:=of_decide_eq_true e
  rw[if_pos e'] at q
  walk_at "go"
  refine⟨by show 3≤sizeLine;decide,λt ht=>?_⟩
  refine q _ _ (s0.trans (zae ht _)) (New.tup (fp:=[la]) (zaj.cstr (zaj.cint (zaj.cany (f:=[la]) (RepF.line (zae ht _ _ _ la1)) zaj.nil))) (by simp) (λb m=>by rw[zms.mp m];exact la2) zac)
 have e0:¬ mix c 4 6=0:=of_decide_eq_false (Bool.eq_false_iff.mpr e)
 rw[if_neg e0] at q
 walk_at "go"
 refine ite2 (λe=>?_) (λe=>?_)
 ·have e':mix c 4 6=1:=of_decide_eq_true e
  rw[if_pos e'] at q
  walk_at "go"
  refine zdW (by decide) ?_
  walk_at "go"
  refine⟨by show 4≤sizeLine;decide,λm hm=>?_⟩
  have s2:=zae hm (.lst [.int 1,.int 1000,.int (1+mix c 5 1000),.int 2])
  walk_at "go"
  refine zdW (by decide) ?_
  refine zbE (SqL.of zac) (v:=.int (byOf c)) ?_ ?_
  ·unfold byOf
   have c4:mix c 6 4=0∨mix c 6 4=1∨mix c 6 4=2∨mix c 6 4=3:=by omega
   rcases c4 with z | z | z | z <;> rw[z] <;> rfl
  walk_at "go"
  refine⟨by show 4≤sizeLine;decide,λt ht=>?_⟩
  refine q _ _ (s0.trans (s2.trans (zae ht _))) (New.tup (fp:=[la]) (zaj.cstr (zaj.cint (zaj.cany (f:=[la]) (RepF.line (zae ht _ _ _ (s2 _ _ la1))) (zaj.cint zaj.nil)))) (by simp) (λb m=>by rw[zms.mp m];exact la2) zac)
 have e1:¬ mix c 4 6=1:=of_decide_eq_false (Bool.eq_false_iff.mpr e)
 rw[if_neg e1] at q
 walk_at "go"
 refine ite2 (λe=>?_) (λe=>?_)
 ·have e':mix c 4 6=2:=of_decide_eq_true e
  rw[if_pos e'] at q
  walk_at "go"
  refine zfY λH2 s2=>?_
  walk_at "go"
  refine zfY λH3 s3=>?_
  walk_at "go"
  refine znp ?_
  walk_at "go"
  refine⟨by show 4≤sizeLine;decide,λt ht=>?_⟩
  refine q _ _ (s0.trans (s2.trans (s3.trans (zae ht _)))) (New.tup (fp:=[]) (zaj.cstr (zaj.cint (zaj.cint (zaj.cint zaj.nil)))) (by simp) (λb m=>by cases m) zac)
 have e2:¬ mix c 4 6=2:=of_decide_eq_false (Bool.eq_false_iff.mpr e)
 rw[if_neg e2] at q
 walk_at "go"
 refine ite2 (λe=>?_) (λe=>?_)
 ·have e':mix c 4 6=3:=of_decide_eq_true e
  rw[if_pos e'] at q
  walk_at "go"
  refine zdW (by omega) ?_
  walk_at "go"
  refine⟨by show 3≤sizeLine;decide,λt ht=>?_⟩
  refine q _ _ (s0.trans (zae ht _)) (New.tup (fp:=[la]) (zaj.cstr (zaj.cany (f:=[la]) (RepF.line (zae ht _ _ _ la1)) (zaj.cint zaj.nil))) (by simp) (λb m=>by rw[zms.mp m];exact la2) zac)
 have e3:¬ mix c 4 6=3:=of_decide_eq_false (Bool.eq_false_iff.mpr e)
 rw[if_neg e3] at q
 walk_at "go"
 refine ite2 (λe=>?_) (λe=>?_)
 ·have e':mix c 4 6=4:=of_decide_eq_true e
  rw[if_pos e'] at q
  walk_at "go"
  refine⟨by show 2≤sizeLine;decide,λt ht=>?_⟩
  refine q _ _ (s0.trans (zae ht _)) (New.tup (fp:=[la]) (zaj.cstr (zaj.cany (f:=[la]) (RepF.line (zae ht _ _ _ la1)) zaj.nil)) (by simp) (λb m=>by rw[zms.mp m];exact la2) zac)
 have e4:¬ mix c 4 6=4:=of_decide_eq_false (Bool.eq_false_iff.mpr e)
 rw[if_neg e4] at q
 walk_at "go"
 refine zdW (by decide) ?_
 walk_at "go"
 refine zdW (by decide) ?_
 walk_at "go"
 refine⟨by show 2≤sizeLine;decide,λg hg=>?_⟩
 have s2:=zae hg (.tup [.int (mix c 10 4),.int (mix c 11 4)])
 walk_at "go"
 refine zdW (by decide) ?_
 walk_at "go"
 refine zdW (by decide) ?_
 walk_at "go"
 refine⟨by show 2≤sizeLine;decide,λu hu'=>?_⟩
 have s3:=zae hu' (.tup [.int (mix c 3 4),.int ((mix c 3 4+1+mix c 13 3) % 4)])
 refine⟨by show 4≤sizeLine;decide,λt ht=>?_⟩
 have s4:=zae ht (.tup [.str "call",.int (mix c 12 100),.ref g,.ref u])
 refine q _ _ (s0.trans (s2.trans (s3.trans s4))) (New.tup (fp:=[]) (zaj.cstr (zaj.cint (zaj.cany (f:=[]) (RepF.pair (s4 _ _ (s3 _ _ zac))) (zaj.cany (f:=[]) (RepF.pair (s4 _ _ zac)) zaj.nil)))) (by simp) (λb m=>by cases m) zac)
def zdZ (K:Fg):Sp:=λvs H Q _=>∃ (a:Addr) (start count:Int) (ns:List Int),vs=[.ref a,.int start,.int count]∧SqL K H a (ns.map V.int)∧0≤start∧0≤count∧count≤8∧∀ v H',Same H H'→New H H' (znP ns start count) v→Q v H'
theorem zf0 {f:Addr}{fd:FuncData}(B:Bl K mg) {C:Nat→Addr}(Z:Zt K mg C) (G_l_lines_by:Fn P w K mg base "_law_lines_by" ["cell","zero"] 4 (zdX K)) (G_l_cell_at:Fn P w K mg base "_law_cell_at" ["script","k"] 1 (zcq K)) (G_l_deed_by:Fn P w K mg base "_law_deed_by" ["cell","count"] 4 (zem K)) (F:Fun K "_law_parts_by" "_law_parts_by" s_l_parts_by f fd) (m:mg "_law_parts_by"=some (.ref f)):Fn P w K mg base "_law_parts_by" ["script","start","count"] 5 (zdZ K):=by
 refine Fn.of (k:=4) F zbT m (λ_ _ _ _ _ _ us hl=>match us,hl with | [_,_,_],_=>rfl) (λvs H Q E h=>?_) (λcdv A outer s H vs Q E hr h=>?_)
 ·first
  | (obtain⟨_,_,_,_,rfl,_⟩:=h;rfl)
 obtain⟨a,start,count,ns,rfl,hS,hst,hc0,hc8,q⟩:=h
 refine⟨_,(zah (zaB (i:=3) zbT.nd rfl (Or.inl rfl) (zao G_l_lines_by hr rfl (zaz (zao G_l_cell_at hr rfl (zad (pv 0) (zad (pv 1) zaa))) (zbh (zaH (zai zab (zai zab (zai zab (zai zab (zai zab (zai zab zaa))))))) zaa))))
   (zah (zaB (i:=4) zbT.nd rfl (Or.inl rfl) (zao G_l_lines_by hr rfl (zaz (zao G_l_cell_at hr rfl (zad (pv 0) (zaU (zau (zaF K) (pv 1) zab) zaa))) (zbh (zaH (zai zab (zai zab (zai zab (zai zab zaa))))) zaa))))
   (zah (zbb (i:=5) zbT.nd rfl rfl rfl (CompOk.m (sc0:=zaf s_l_parts_by) (N:=["script","start","count","needs","leaves","deeds","notes"]) (N':=["script","start","count","needs","leaves","deeds","notes","k"]) (ms:=[false,false,false,false,false,false,false,true])) (zbd rfl B.range (zad (pv 2) zaa)) (λ_ _ _ _ _=>(zas (i:=7) (ndS (N:=["script","start","count","needs","leaves","deeds","notes","k"])) rfl (Or.inl rfl))) (λ_ _ _ _ _=>zaJ) (λ_ _ _ _ _=>(zao G_l_deed_by hr rfl (zaz (zao G_l_cell_at hr rfl (zad (pv 0) (zaU (zau (zaF K) (zau (zaF K) (pv 1) zab) (pv 7)) zaa))) (zad (pv 2) zaa)))))
   (zah (zbb (i:=6) zbT.nd rfl rfl rfl (CompOk.m (sc0:=zaf s_l_parts_by) (N:=["script","start","count","needs","leaves","deeds","notes"]) (N':=["script","start","count","needs","leaves","deeds","notes","k"]) (ms:=[false,false,false,false,false,false,false,true])) (zbd rfl B.range (zad (pv 2) zaa)) (λ_ _ _ _ _=>(zas (i:=7) (ndS (N:=["script","start","count","needs","leaves","deeds","notes","k"])) rfl (Or.inl rfl))) (λ_ _ _ _ _=>zaJ) (λ_ _ _ _ _=>(zao G_l_lines_by hr rfl (zaU (zau zdw (zao G_l_cell_at hr rfl (zad (pv 0) (zaU (zau (zaF K) (zau (zaF K) (pv 1) zab) (pv 7)) zaa))) zab) (zbh (zaH (zai zab (zai zab zaa))) zaa)))))
   (zal (zaA (zaH (zad (pv 3) (zad (pv 4) (zad (pv 5) (zad (pv 6) zaa))))))))))),?_⟩
 walk_at "go"
 refine zdY hS hst ?_
 walk_at "go"
 refine⟨by show 6≤sizeLine;decide,λp hp=>?_⟩
 have r1:=zae hp (.lst [.int 0,.int 1,.int 2,.int 3,.int 6,.int 7])
 walk_at "go"
 refine⟨_,p,[0,1,2,3,6,7],rfl,SqL.of zac,λv1 H1 s1 n1=>?_⟩
 have t1:=r1.trans s1
 walk_at "go"
 refine zdY (t1.seq hS) (by omega) ?_
 walk_at "go"
 refine⟨by show 4≤sizeLine;decide,λp2 hp2=>?_⟩
 have r2:=zae hp2 (.lst [.int 0,.int 1,.int 2,.int 3])
 walk_at "go"
 refine⟨_,p2,[0,1,2,3],rfl,SqL.of zac,λv2 H2 s2 n2=>?_⟩
 have t2:=t1.trans (r2.trans s2)
 walk_at "go"
 refine zbQ (by omega) (by omega) ?_
 refine zaO zbo (zfq ns start count) (by simp[zfq]) (zag (by omega)) (λi x d H3 R hi hd s3 hx hR=>?_) (λv3 H3 s3 n3=>?_)
 ·subst hx
  unfold zfq at hd
  have hd':=zbR hd
  subst hd'
  walk_at "go"
  refine zdY ((t2.trans s3).seq hS) (by omega) ?_
  walk_at "go"
  refine⟨_,_,rfl,hc0,λv H4 s4 n4=>?_⟩
  exact hR _ _ s4 n4
 have t3:=t2.trans s3
 walk_at "go"
 refine zbQ (by omega) (by omega) ?_
 refine zaO zbo ((zcw ns start count).map zaI) (by simp[zcw]) (zag (by omega)) (λi x d H4 R hi hd s4 hx hR=>?_) (λv4 H4 s4 n4=>?_)
 ·subst hx
  unfold zcw at hd
  rw[List.map_map] at hd
  have hd':=zbR hd
  subst hd'
  walk_at "go"
  refine zdY ((t3.trans s4).seq hS) (by omega) ?_
  walk_at "go"
  refine⟨by show 2≤sizeLine;decide,λp3 hp3=>?_⟩
  have r3:=zae hp3 (.lst [.int 6,.int 7])
  walk_at "go"
  refine⟨_,p3,[6,7],rfl,SqL.of zac,λv5 H5 s5 n5=>?_⟩
  exact hR _ _ (r3.trans s5) (n5.back r3)
 walk_at "go"
 refine⟨by show 4≤sizeLine;decide,λt ht=>?_⟩
 have s5:=zae ht (.lst [v1,v2,v3,v4])
 refine q _ _ ((t3.trans s4).trans s5) ?_
 have w1:News H H1 [zaI (zeh ns start)] [v1]:=News.nil.snoc (H1:=H) (Same.refl H) t1 (n1.back r1)
 have w2:=(w1.same r2).snoc (t1.trans r2) s2 n2
 have w3:=w2.snoc t2 s3 n3
 have w4:=w3.snoc t3 s4 n4
 exact w4.lst (t3.trans s4) ht
def zcy (K:Fg):Sp:=λvs H Q _=>∃ i:Int,vs=[.int i]∧0≤i∧∀ v H',Same H H'→New H H' (nums (zaq i)) v→Q v H'
theorem zcH {H:Hp}{Q:VK}{E:XK}{i:Int}(h:0≤i) (q:∀ v H',Same H H'→New H H' (nums (zaq i)) v→Q v H'):zcy K [.int i] H Q E:=⟨i,rfl,h,q⟩
theorem zkc {f:Addr}{fd:FuncData}(B:Bl K mg) {C:Nat→Addr}(Z:Zt K mg C)  (F:Fun K "_law_bare" "_law_bare" s_l_bare f fd) (m:mg "_law_bare"=some (.ref f)):Fn P w K mg base "_law_bare" ["i"] 1 (zcy K):=by
 refine Fn.of (k:=0) F zj3 m (λ_ _ _ _ _ _ us hl=>match us,hl with | [_],_=>rfl) (λvs H Q E h=>?_) (λcdv A outer s H vs Q E hr h=>?_)
 ·first
  | (obtain⟨_,rfl,_⟩:=h;rfl)
 obtain⟨i,rfl,h0,q⟩:=h
 refine⟨_,(zal (zaA (zbf rfl (CompOk.m (sc0:=zaf s_l_bare) (N:=["i"]) (N':=["i","k"]) (ms:=[false,true])) (zbd rfl B.range (zai zab zaa)) (λ_ _ _ _ _=>(zas (i:=1) (ndS (N:=["i","k"])) rfl (Or.inl rfl))) (λ_ _ _ _ _=>zaJ) (λ_ _ _ _ _=>(zcR c_int rfl B.int L2.zhT (znG (zg8 (k_eq K hr) (pv 1) (zau (zaF K) (pv 0) zab) (za1 _)) zaa)))))),?_⟩
 walk_at "go"
 refine zbQ (by decide) (by decide) ?_
 refine zaO (n:=9) zbo ((zaq i).map D.int) (by simp[zaq]) (by decide) (λj x d H1 R hj hd s1 hx hR=>?_) (λv H1 s1 n1=>?_)
 ·subst hx
  rw[←zkY h0,List.map_map] at hd
  have hd':=zbR hd
  subst hd'
  walk_at "go"
  refine znq ?_
  exact hR _ _ (Same.refl _) New.int
 ·walk_at "go"
  exact q _ _ s1 n1
def zcd:List (List Int):=(List.range 8).map λ(i:Nat)=>zaq (0+(i:Int))
def zc7 (ps:List (Int × List Int)):List (List Int):=ps.foldl (λe p=>e.set p.1.toNat p.2) zcd
theorem zhw (ps:List (Int × List Int)) (p:Int × List Int):zc7 (ps++[p])=(zc7 ps).set p.1.toNat p.2:=by unfold zc7;rw[List.foldl_append];rfl
theorem zgZ:∀ (ps:List (Int × List Int)) (e:List (List Int)),e.length=8→(∀ l∈e,l.length=9)→(∀ p∈ps,p.2.length=9)→(ps.foldl (λe p=>e.set p.1.toNat p.2) e).length=8∧∀ l∈ps.foldl (λe p=>e.set p.1.toNat p.2) e,l.length=9
 | [],e,h8,h9,_=>⟨h8,h9⟩
 | p::ps,e,h8,h9,hp=>zgZ ps _ (by rw[List.length_set];exact h8) (λl hl=>by
   rcases List.mem_or_eq_of_mem_set hl with z | z
   ·exact h9 l z
   ·rw[z];exact hp p List.mem_cons_self) λq hq=>hp q (List.mem_cons_of_mem _ hq)
theorem zce:zcd.length=8∧∀ l∈zcd,l.length=9:=⟨by simp[zcd],λl hl=>by
 obtain⟨i,_,rfl⟩:=zmm.mp hl
 exact zak _⟩
def zbY (K:Fg):Sp:=λvs H Q _=>∃ (a:Addr) (ps:List (Int × List Int)) (xs:List V),vs=[.ref a]∧H a=some (.lst xs)∧ps.length=xs.length∧(∀ p∈ps,p.2.length=9∧0≤p.1∧p.1<8)∧
 (∀ (i:Nat) p x,ps[i]?=some p→xs[i]?=some x→∃ T la,x=.ref T∧H T=some (.tup [.int p.1,.ref la])∧H la=some (.lst (p.2.map V.int)))∧
 ∀ e H',Same H H'→H e=none→Ls H' e (zc7 ps)→Q (.ref e) H'
theorem zec {i:Nat}(h:i<8):zcd[i]?=some (zaq (0+(i:Int))):=by unfold zcd;rw[zgm,List.getElem?_range h];rfl
theorem ziM {ch:Nat→Option (List Int)}{i:Nat}(h:i<8):(zaC ch)[i]?=some ((ch i).getD (zaq (0+(i:Int)))):=by unfold zaC;rw[zgm,List.getElem?_range h];rfl
theorem ze1 {e:List (List Int)}{ch:Nat→Option (List Int)}(h8:e.length=8) (h:∀ i:Nat,i<8→e[i]?=some ((ch i).getD (zaq (0+(i:Int))))):e=zaC ch:=by
 refine List.ext_getElem? λi=>?_
 by_cases hi:i<8
 ·rw[h i hi,ziM hi]
 ·rw[List.getElem?_eq_none (by omega),List.getElem?_eq_none (by rw[zaE];omega)]
theorem zhx {e:List (List Int)}{k:Int}{l:List Int}{i:Nat}(k0:0≤k) (h8:e.length=8) (hi:i<8):(e.set k.toNat l)[i]?=if k=0+(i:Int) then some l else e[i]?:=by
 rw[List.getElem?_set]
 by_cases z:k=0+(i:Int)
 ·rw[if_pos (by omega),if_pos (by omega),if_pos z]
 ·rw[if_neg (by omega),if_neg z]
theorem ziN:zc7 []=zaC λ_=>none:=ze1 zce.1 λi hi=>zec hi
theorem ziO {k:Int}{l:List Int}(k0:0≤k):zc7 [(k,l)]=zaC (ch1 k l):=by
 refine ze1 (by show (zcd.set _ _).length=8;rw[List.length_set];exact zce.1) λi hi=>?_
 show (zcd.set k.toNat l)[i]?=_
 rw[zhx k0 zce.1 hi,zec hi]
 unfold ch1
 split <;> rfl
theorem ziP {k0 k1:Int}{l0 l1:List Int}(h0:0≤k0) (h1:0≤k1):zc7 [(k0,l0),(k1,l1)]=zaC (ch2 k0 l0 k1 l1):=by
 have b8:(zcd.set k0.toNat l0).length=8:=by rw[List.length_set];exact zce.1
 refine ze1 (by show ((zcd.set _ _).set _ _).length=8;rw[List.length_set];exact b8) λi hi=>?_
 show ((zcd.set k0.toNat l0).set k1.toNat l1)[i]?=_
 rw[zhx h1 b8 hi,zhx h0 zce.1 hi,zec hi]
 unfold ch2
 split
 ·rfl
 ·split <;> rfl
section
variable {P : Program} {w : World} {K : Fg} {H : Hp} {Q : VK} {E : XK} {pl : Addr}
theorem zk3 (hp:H pl=some (.lst [])) (q:∀ e H',Same H H'→H e=none→Ls H' e (zaC λ_=>none)→Q (.ref e) H'):zbY K [.ref pl] H Q E:=⟨pl,[],[],rfl,hp,rfl,λp hp=>by simp at hp,λi p x e1 _=>by simp at e1,λe H' s e0 h=>q e H' s e0 (by rw[←ziN];exact h)⟩
theorem zf1 {T1 la:Addr}{k:Int}{l:List Int}(hp:H pl=some (.lst [.ref T1])) (ht:H T1=some (.tup [.int k,.ref la])) (hl:H la=some (.lst (l.map V.int))) (h9:l.length=9) (k0:0≤k) (k8:k<8) (q:∀ e H',Same H H'→H e=none→Ls H' e (zaC (ch1 k l))→Q (.ref e) H'):zbY K [.ref pl] H Q E:=by
 refine⟨pl,[(k,l)],[.ref T1],rfl,hp,rfl,λp hp=>?_,λi p x e1 e2=>?_,λe H' s e0 h=>q e H' s e0 (by rw[←ziO k0];exact h)⟩
 ·simp at hp;subst hp;exact⟨h9,k0,k8⟩
 ·cases i with
  | zero=>simp at e1 e2;subst e1;subst e2;exact⟨T1,la,rfl,ht,hl⟩
  | succ i=>simp at e1
theorem zh7 {T1 T2 la lb:Addr}{k j:Int}{l m:List Int}(hp:H pl=some (.lst [.ref T1,.ref T2])) (ht:H T1=some (.tup [.int k,.ref la])) (hl:H la=some (.lst (l.map V.int))) (ht2:H T2=some (.tup [.int j,.ref lb])) (hl2:H lb=some (.lst (m.map V.int))) (h9:l.length=9) (k9:m.length=9) (k0:0≤k) (k8:k<8) (j0:0≤j) (j8:j<8) (q:∀ e H',Same H H'→H e=none→Ls H' e (zaC (ch2 k l j m))→Q (.ref e) H'):zbY K [.ref pl] H Q E:=by
 refine⟨pl,[(k,l),(j,m)],[.ref T1,.ref T2],rfl,hp,rfl,λp hp=>?_,λi p x e1 e2=>?_,λe H' s e0 h=>q e H' s e0 (by rw[←ziP k0 j0];exact h)⟩
 ·simp at hp
  rcases hp with rfl | rfl
  ·exact⟨h9,k0,k8⟩
  ·exact⟨k9,j0,j8⟩
 ·cases i with
  | zero=>simp at e1 e2;subst e1;subst e2;exact⟨T1,la,rfl,ht,hl⟩
  | succ i=>
   cases i with
   | zero=>simp at e1 e2;subst e1;subst e2;exact⟨T2,lb,rfl,ht2,hl2⟩
   | succ i=>simp at e1
end
theorem ziQ {f:Addr}{fd:FuncData}(B:Bl K mg) {C:Nat→Addr}(Z:Zt K mg C) (G_l_bare:Fn P w K mg base "_law_bare" ["i"] 1 (zcy K)) (F:Fun K "_law_eight" "_law_eight" s_l_eight f fd) (m:mg "_law_eight"=some (.ref f)):Fn P w K mg base "_law_eight" ["changes"] 2 (zbY K):=by
 refine Fn.of (k:=1) F zdf m (λ_ _ _ _ _ _ us hl=>match us,hl with | [_],_=>rfl) (λvs H Q E h=>?_) (λcdv A outer s H vs Q E hr h=>?_)
 ·first
  | (obtain⟨_,_,_,rfl,_⟩:=h;rfl)
 obtain⟨a,ps,xs,rfl,hA,hl,hps,hit,q⟩:=h
 refine⟨_,(zah (zbb (i:=1) zdf.nd rfl rfl rfl (CompOk.m (sc0:=zaf s_l_eight) (N:=["changes","eight","place","line"]) (N':=["changes","eight","place","line","i"]) (ms:=[false,false,false,false,true])) (zbd rfl B.range (zai zab zaa)) (λ_ _ _ _ _=>(zas (i:=4) (ndS (N:=["changes","eight","place","line","i"])) rfl (Or.inl rfl))) (λ_ _ _ _ _=>zaJ) (λ_ _ _ _ _=>(zao G_l_bare hr rfl (zad (pv 4) zaa))))
   (zah (zcK PassesOwn.never rfl (za3 K (pv 0)) (zeL K (n:=2) rfl (zbs (zas (i:=2) zdf.nd rfl (Or.inl rfl)) (zbs (zas (i:=3) zdf.nd rfl (Or.inl rfl)) zdv))) (zal (zew (pv 3) (zfi (pv 1) (pv 2) zda))))
   (zal (zaA (pv 1))))),?_⟩
 walk_at "q"
 walk_at "gs"
 refine zbQ (by decide) (by decide) ?_
 refine zaO (n:=8) zbo (zcd.map nums) (by simp[zcd]) (by decide) (λi x d H1 R hi hd s1 hx hR=>?_) (λv H1 s1 n1=>?_)
 ·subst hx
  unfold zcd at hd
  rw[List.map_map] at hd
  have hd':=zbR hd
  subst hd'
  walk_at "gs"
  refine zcH (by omega) λv H2 s2 n2=>?_
  exact hR _ _ s2 n2
 obtain⟨ea,rfl,ea0,hE⟩:=n1.ls
 walk_at "gs"
 walk_at "q"
 walk_at "gs"
 refine⟨a,rfl,⟨_,SqL.of (s1 _ _ hA)⟩,?_⟩
 refine zd6 (xs:=xs) (λi σ H2=>∃ x y,σ=[some (.ref a),some (.ref ea),x,y]∧Same H H2∧Ls H2 ea (zc7 (ps.take i)))
  ⟨none,none,rfl,s1,hE⟩ (λi σ H2 _ ⟨_,_,_,s,_⟩=>SqL.of (s _ _ hA)) ?_ ?_
 ·rintro i v σ H2 hv ⟨x,y,rfl,s2,hL⟩
  have hi:i<ps.length:=by have:=(zge.mp hv).1;omega
  obtain⟨T,la,rfl,hT,hla⟩:=hit i ps[i] v (by simp) hv
  obtain⟨p9,k0,k8⟩:=hps ps[i] (List.getElem_mem hi)
  have ok:=zgZ (ps.take i) zcd zce.1 zce.2 λp hp=>(hps p (List.mem_of_mem_take hp)).1
  obtain⟨ys,hys,lys⟩:=hL.len
  refine⟨T,_,rfl,SqT.of (s2 _ _ hT),rfl,⟨_,_,rfl,?_⟩⟩
  refine⟨_,_,rfl,?_⟩
  refine⟨rfl,?_⟩
  walk_at "gs"
  refine zeK hys (znJ k0 (by rw[lys,show (zc7 (ps.take i)).length=8 from ok.1];omega)) ?_
  refine⟨_,_,rfl,s2.put ea0,?_⟩
  rw[List.take_add_one,List.getElem?_eq_getElem hi,show (some ps[i]).toList=[ps[i]] from rfl,zhw]
  exact hL.set ok.2 hys (s2 _ _ hla) p9 (λz=>by rw[z,ea0] at hla;cases hla)
 ·rintro σ H2 ⟨x,y,rfl,s2,hL⟩
  walk_at "gs"
  rw[←hl,List.take_of_length_le (Nat.le_refl _)] at hL
  exact q ea H2 s2 ea0 hL
def zcI (K:Fg):Sp:=λvs H Q _=>∃ (a b:Addr) (c:Int) (fs:List Int) (ls:List (List Int)),vs=[.ref a,.ref b]∧SqL K H a ((c::fs).map V.int)∧Rep K H (.lst (ls.map nums)) (.ref b)∧fs.length=8∧ls.length=8∧(∀ l∈ls,l.length=9)∧ziG ls fs∧
 ∀ v H',Same H H'→New H H' (nums (zaG (c::fs) ls)) v→Q v H'
theorem CMul.comm {i j:Int}(h:CMul i j):CMul j i:=h.symm
theorem zhy {f:Addr}{fd:FuncData}(B:Bl K mg) {C:Nat→Addr}(Z:Zt K mg C)  (F:Fun K "_law_turned" "_law_turned" s_l_turned f fd) (m:mg "_law_turned"=some (.ref f)):Fn P w K mg base "_law_turned" ["line","eight"] 1 (zcI K):=by
 refine Fn.of (k:=0) F zcF m (λ_ _ _ _ _ _ us hl=>match us,hl with | [_,_],_=>rfl) (λvs H Q E h=>?_) (λcdv A outer s H vs Q E hr h=>?_)
 ·first
  | (obtain⟨_,_,_,_,_,rfl,_⟩:=h;rfl)
 obtain⟨a,b,c,fs,ls,rfl,hA,hB,lf,ll,h9,ok,q⟩:=h
 refine⟨_,(zah (zaB (i:=2) zcF.nd rfl (Or.inl rfl) (zau (zaF K) (zaH (zaT (zav (k_ix K) (pv 0) zab (λ_ _=>rfl)) zaa)) (zau zbi (zaH (zai zab zaa)) zab)))
   (zah (zcK PassesOwn.never rfl (zbd rfl B.range (zai zab zaa)) (zas (i:=3) zcF.nd rfl (Or.inr rfl)) (zal (zbb (i:=2) zcF.nd rfl rfl rfl (CompOk.m (sc0:=zaf s_l_turned) (N:=["line","eight","found","k"]) (N':=["line","eight","found","k","a","b"]) (ms:=[false,false,false,false,true,true])) (zgt K rfl B.zip (zad (pv 2) (zaT (zav (k_ix K) (pv 1) (pv 3) (λ_ _=>rfl)) zaa))) (λ_ _ _ _ _=>(zeL K (n:=2) rfl (zbs (zas (i:=4) (ndS (N:=["line","eight","found","k","a","b"])) rfl (Or.inl rfl)) (zbs (zas (i:=5) (ndS (N:=["line","eight","found","k","a","b"])) rfl (Or.inl rfl)) zdv)))) (λ_ _ _ _ _=>zaJ) (λ_ _ _ _ _=>(zau (zaF K) (pv 4) (zau zbi (zav (k_ix K) (pv 0) (zau (zaF K) (pv 3) zab) (λ_ _=>rfl)) (pv 5)))))))
   (zal (zaA (pv 2))))),?_⟩
 unfold Rep at hB
 obtain⟨_,xs,e,hB,hx⟩:=hB
 cases e
 have lx:=hx.length
 rw[zlm] at lx
 walk_at "q"
 walk_at "gs"
 refine zbE hA (v:=.int c) zar ?_
 walk_at "gs"
 refine⟨zag (by simp),λp1 hp1=>?_⟩
 have t1:=zae hp1 (.lst [V.int c])
 walk_at "gs"
 refine⟨zag (by simp),λp2 hp2=>?_⟩
 have t2:=zae hp2 (.lst [V.int 0])
 walk_at "gs"
 refine .inr ⟨p2,8,[.int 0],rfl,rfl,zac,by decide,by decide,by decide,λp3 hp3=>?_⟩
 have t3:=zae hp3 (.lst (List.replicate (8:Int).toNat [V.int 0]).flatten)
 walk_at "gs"
 refine zbk (t3 _ _ (t2 _ _ zac)) zac (zag (by show 1+8≤1000;decide)) λp4 hp4=>?_
 have s0:=t1.trans (t2.trans t3)
 have s4:=s0.trans (zae hp4 (.lst ([V.int c]++(List.replicate (8:Int).toNat [V.int 0]).flatten)))
 have f4:(upd (upd (upd (upd H p1 (.lst [V.int c])) p2 (.lst [V.int 0])) p3 (.lst (List.replicate (8:Int).toNat [V.int 0]).flatten)) p4 (.lst ([V.int c]++(List.replicate (8:Int).toNat [V.int 0]).flatten))) p4=some (.lst ((kL c).map V.int)):=zac
 generalize (upd (upd (upd (upd H p1 (.lst [V.int c])) p2 (.lst [V.int 0])) p3 (.lst (List.replicate (8:Int).toNat [V.int 0]).flatten)) p4 (.lst ([V.int c]++(List.replicate (8:Int).toNat [V.int 0]).flatten)))=H4 at s4 f4
 have z4:H p4=none:=s0.free hp4
 walk_at "gs"
 walk_at "q"
 walk_at "gs"
 refine zbQ (by decide) (by decide) ?_
 refine zfI (λi σ H2=>∃ (ta:Addr) (x:Option V),i≤8∧σ=[some (.ref a),some (.ref b),some (.ref ta),x]∧Same H H2∧H ta=none∧H2 ta=some (.lst ((zcg ((ls.zip fs).take i) (kL c)).map V.int)))
  ⟨p4,none,by decide,rfl,s4,z4,f4⟩ ?_ ?_
 ·rintro i σ H2 hi ⟨ta,x,_,rfl,s2,ta0,ta1⟩
  have i8:i<8:=hi
  have il:i<ls.length:=by omega
  have jf:i<fs.length:=by omega
  obtain⟨y,hy,ry⟩:=hx.get (i:=i) (d:=nums ls[i]) (by simp[il])
  obtain⟨lu,rfl,hlu⟩:=zbJ.mp (Rep.same s2 _ ry)
  have l9:=h9 ls[i] (List.getElem_mem il)
  have ft9:(zcg ((ls.zip fs).take i) (kL c)).length=9:=zcm _ _ (zaX c) λp hp=>zfM h9 p (List.mem_of_mem_take hp)
  walk_at "gs"
  refine zbE (s2.seq hB) (v:=.ref lu) (zhY (by omega) (by rw[show (0+(i:Int)).toNat=i by omega];exact hy)) ?_
  walk_at "gs"
  refine⟨ta,lu,rfl,⟨_,SqL.of ta1⟩,⟨_,hlu⟩,?_⟩
  refine zaO (n:=9) (zdK (SqL.of ta1) hlu (by rw[zlm,zlm,ft9,l9];rfl)) ((addW fs[i] (zcg ((ls.zip fs).take i) (kL c)) ls[i]).map D.int) (by rw[zlm];exact zcb ft9 l9) (by decide) (λj x' d H4' R hj hd s5 hx' hR=>?_) (λv H5 s5 n5=>?_)
  ·obtain⟨T2,u2,z2,rfl,hT2,e1,e2⟩:=hx'
   rw[zgm] at e1 e2
   obtain⟨s',hs',rfl⟩:=zme.mp e1
   obtain⟨n',hn',rfl⟩:=zme.mp e2
   have ed:d=.int (s' + n' * fs[i]):=by
    unfold addW at hd
    rw[zgm,List.getElem?_zipWith,hs',hn'] at hd
    cases hd
    rfl
   subst ed
   refine⟨T2,_,rfl,SqT.of hT2,rfl,⟨_,_,rfl,?_⟩⟩
   refine⟨_,_,rfl,?_⟩
   refine⟨rfl,?_⟩
   walk_at "gs"
   refine zbE ((s2.trans s5).seq hA) (v:=.int fs[i]) (zhY (by omega) (by rw[show (0+(i:Int)+1).toNat=i+1 by omega];simp[jf])) ?_
   walk_at "gs"
   refine zfG (CMul.comm (ok i ls[i] fs[i] (by simp) (by simp) n' (zmg hn'))) ?_
   walk_at "gs"
   rw[Int.mul_comm]
   exact hR _ _ (Same.refl _) New.int
  obtain⟨na,rfl,na0,na1⟩:=New.ints_iff.mp n5
  walk_at "gs"
  refine⟨na,_,by omega,rfl,s2.trans s5,s2.free na0,?_⟩
  rw[na1,List.take_add_one,zjQ (List.getElem?_eq_getElem il) (List.getElem?_eq_getElem jf),zfp]
 ·rintro σ H2 ⟨ta,x,_,rfl,s2,ta0,ta1⟩
  walk_at "gs"
  refine q _ _ s2 (New.ints_iff.mpr ⟨ta,rfl,ta0,?_⟩)
  rw[ta1,List.take_of_length_le (by rw[List.length_zip];show min ls.length fs.length≤8;omega),zhp h9]
def zed (K:Fg):Sp:=λvs H Q _=>∃ (a b n:Addr) (c:Int) (fs:List Int) (ls:List (List Int)),vs=[.ref a,.ref b,.ref n]∧SqL K H a ((c::fs).map V.int)∧Rep K H (.lst (ls.map nums)) (.ref b)∧fs.length=8∧ls.length=8∧(∀ l∈ls,l.length=9)∧ziG ls fs∧
 ∀ T ta H',Same H H'→H' T=some (.tup [.ref ta,.ref n])→H' ta=some (.lst ((zaG (c::fs) ls).map V.int))→Q (.ref T) H'
theorem ziR {f:Addr}{fd:FuncData}(B:Bl K mg) {C:Nat→Addr}(Z:Zt K mg C) (G_l_turned:Fn P w K mg base "_law_turned" ["line","eight"] 1 (zcI K)) (F:Fun K "_law_alone" "_law_alone" s_l_alone f fd) (m:mg "_law_alone"=some (.ref f)):Fn P w K mg base "_law_alone" ["line","eight","notes"] 2 (zed K):=by
 refine Fn.of (k:=1) F ziJ m (λ_ _ _ _ _ _ us hl=>match us,hl with | [_,_,_],_=>rfl) (λvs H Q E h=>?_) (λcdv A outer s H vs Q E hr h=>?_)
 ·first
  | (obtain⟨_,_,_,_,_,_,rfl,_⟩:=h;rfl)
 obtain⟨a,b,n,c,fs,ls,rfl,hA,hB,lf,ll,h9,ok,q⟩:=h
 refine⟨_,(zal (zaA (zbg (zaz (zao G_l_turned hr rfl (zad (pv 0) (zad (pv 1) zaa))) (zad (pv 2) zaa))))),?_⟩
 walk_at "gs"
 refine⟨a,b,c,fs,ls,rfl,hA,hB,lf,ll,h9,ok,λv H1 s1 n1=>?_⟩
 obtain⟨ta,rfl,ta0,ta1⟩:=New.ints_iff.mp n1
 walk_at "gs"
 refine⟨zag (by simp),λT hT=>?_⟩
 have t1:=zae hT (.tup [V.ref ta,.ref n])
 exact q T ta _ (s1.trans t1) zac (t1 _ _ ta1)
theorem zhz:zc7 [(6,zaq 0),(7,zaq 1)]=zbF:=by decide
def zdF (K:Fg):Sp:=λvs H Q _=>∃ (v:V) (place:Int) (needs leaves:List (List Int)) (deeds:List Dd) (notes:List (List (List Int))),vs=[v,.int place]∧zdl H v needs leaves deeds notes∧0≤place∧place≤(deeds.length:Int)∧deeds.length=notes.length∧leaves.length≤100∧(∀ l∈leaves,l.length=9)∧
 ∀ a H',Same H H'→Ls H' a (dueL leaves notes place)→Q (.ref a) H'
theorem zhA {f:Addr}{fd:FuncData}(B:Bl K mg) {C:Nat→Addr}(Z:Zt K mg C) (G_l_turned:Fn P w K mg base "_law_turned" ["line","eight"] 1 (zcI K)) (G_l_eight:Fn P w K mg base "_law_eight" ["changes"] 2 (zbY K)) (G_l_bare:Fn P w K mg base "_law_bare" ["i"] 1 (zcy K)) (F:Fun K "_law_due_at" "_law_due_at" s_l_due_at f fd) (m:mg "_law_due_at"=some (.ref f)):Fn P w K mg base "_law_due_at" ["parts","place"] 3 (zdF K):=by
 refine Fn.of (k:=2) F zhs m (λ_ _ _ _ _ _ us hl=>match us,hl with | [_,_],_=>rfl) (λvs H Q E h=>?_) (λcdv A outer s H vs Q E hr h=>?_)
 ·first
  | (obtain⟨_,_,_,_,_,_,rfl,_⟩:=h;rfl)
 obtain⟨v,place,needs,leaves,deeds,notes,rfl,hP,p0,pn,ldn,ll,l9,q⟩:=h
 refine⟨_,(zah (zbB (zaR zmJ (pv 1) (zaK (zep K) rfl B.len L2.boot_len (zaT (zav (k_ix K) (pv 0) zab (λ_ _=>rfl)) zaa)) (za1 _)) (zal (zaA (zav (k_ix K) (zav (k_ix K) (pv 0) zab (λ_ _=>rfl)) (pv 1) (λ_ _=>rfl)))) zaP)
   (zal (zaA (zbf rfl (CompOk.m (sc0:=zaf s_l_due_at) (N:=["parts","place"]) (N':=["parts","place","line"]) (ms:=[false,false,true])) (za3 K (zav (k_ix K) (pv 0) zab (λ_ _=>rfl))) (λ_ _ _ _ _=>(zas (i:=2) (ndS (N:=["parts","place","line"])) rfl (Or.inl rfl))) (λ_ _ _ _ _=>zaJ) (λ_ _ _ _ _=>(zao G_l_turned hr rfl (zad (pv 2) (zaz (zao G_l_eight hr rfl (zbh (zaH (zb7 (zbg (zai zab (zaz (zao G_l_bare hr rfl (zai zab zaa)) zaa))) (zb7 (zbg (zai zab (zaz (zao G_l_bare hr rfl (zai zab zaa)) zaa))) zaa))) zaa)) zaa)))))))),?_⟩
 obtain⟨pa,y1,y2,a3,a4,dvs,nvs,rfl,hpa,r1,r2,h3,h4,dr,nr⟩:=hP
 have ldv:=dr.1
 have lnv:=nr.1
 unfold dueL at q
 by_cases e:place<(dvs.length:Int)
 ·rw[if_neg (by omega)] at q
  with_reducible refine zfn (λQ2 q2=>?_) (λNX=>?_)
  ·walk_at "gs"
   refine zbE (SqL.of hpa) (v:=.ref a3) (zap (j:=2) rfl) ?_
   walk_at "gs"
   refine zd5 (.inl (SqL.of h3)) ?_
   walk_at "gs"
   rw[decide_eq_true e]
   exact q2
  have ltn:place.toNat<notes.length:=by omega
  obtain⟨_,hx,xa,rfl,rx⟩:=R2.get nr ltn
  walk_at "gs"
  refine zbE (SqL.of hpa) (v:=.ref a4) (zap (j:=3) rfl) ?_
  walk_at "gs"
  refine zbE (SqL.of h4) (zhY p0 hx) ?_
  refine q xa _ (Same.refl _) ?_
  rw[List.getD_eq_getElem?_getD,List.getElem?_eq_getElem ltn]
  exact rx
 ·rw[if_pos (by omega)] at q
  with_reducible refine zaM (λQ2 q2=>?_) ?_
  ·walk_at "gs"
   refine zbE (SqL.of hpa) (v:=.ref a3) (zap (j:=2) rfl) ?_
   walk_at "gs"
   refine zd5 (.inl (SqL.of h3)) ?_
   walk_at "gs"
   rw[decide_eq_false e]
   exact q2
  obtain⟨xs,hy2',_,hx⟩:=r2.out (K:=K)
  have hy2:SqL K H y2 xs:=SqL.of hy2'
  have lx:=hx.length
  rw[zlm] at lx
  have e9:∀ l∈zbF,l.length=9:=λl hl=>by
   unfold zbF at hl
   obtain⟨i,_,rfl⟩:=zmm.mp hl
   exact zak i
  have esm:∀ l∈zbF,Sm l:=λl hl=>by
   unfold zbF at hl
   obtain⟨i,_,rfl⟩:=zmm.mp hl
   exact zaQ i
  walk_at "gs"
  refine zbE (SqL.of hpa) (v:=.ref y2) (zap (j:=1) rfl) ?_
  refine⟨y2,rfl,⟨_,hy2⟩,?_⟩
  refine zaO (zaV hy2) ((leaves.map λl=>zaG l zbF).map nums) (by simp[lx]) (zag (by omega)) (λi x d H1 R hi hd s1 hx' hR=>?_) (λv H1 s1 n1=>?_)
  ·obtain⟨d2,hd2,hrx⟩:=hx.get' hx'
   rw[zgm] at hd2
   obtain⟨l,hl',rfl⟩:=zme.mp hd2
   rw[zgm,zgm,hl'] at hd
   cases hd
   obtain⟨xa,rfl,hxa⟩:=zbJ.mp (Rep.same s1 _ hrx)
   have l9':=l9 l (zmg hl')
   obtain⟨c,fs,rfl⟩:∃ c fs,l=c::fs:=by
    cases l with
    | nil=>simp at l9'
    | cons c fs=>exact⟨c,fs,rfl⟩
   walk_at "gs"
   refine zcH (by decide) λv H2 s2 n2=>?_
   obtain⟨b1,rfl,b10,b11⟩:=New.ints_iff.mp n2
   walk_at "gs"
   refine⟨zag (by simp),λT1 hT1=>?_⟩
   have t1:=zae hT1 (.tup [V.int 6,.ref b1])
   walk_at "gs"
   refine zcH (by decide) λv H3 s3 n3=>?_
   obtain⟨b2,rfl,b20,b21⟩:=New.ints_iff.mp n3
   walk_at "gs"
   refine⟨zag (by simp),λT2 hT2=>?_⟩
   have t2:=zae hT2 (.tup [V.int 7,.ref b2])
   walk_at "gs"
   refine⟨zag (by simp),λpl hpl=>?_⟩
   have t3:=zae hpl (.lst [V.ref T1,.ref T2])
   have s23:=t1.trans (s3.trans (t2.trans t3))
   walk_at "gs"
   refine⟨pl,[(6,zaq 0),(7,zaq 1)],[.ref T1,.ref T2],rfl,zac,rfl,λp hp=>?_,λi p x e1 e2=>?_,λea H5 s5 ea0 hE=>?_⟩
   ·simp at hp
    rcases hp with rfl | rfl
    ·exact⟨zak 0,by decide,by decide⟩
    ·exact⟨zak 1,by decide,by decide⟩
   ·cases i with
    | zero=>
     simp at e1 e2;subst e1;subst e2
     exact⟨T1,b1,rfl,(s3.trans (t2.trans t3)) _ _ zac,s23 _ _ b11⟩
    | succ i=>
     cases i with
     | zero=>
      simp at e1 e2;subst e1;subst e2
      exact⟨T2,b2,rfl,t3 _ _ zac,(t2.trans t3) _ _ b21⟩
     | succ i=>simp at e1
   rw[zhz] at hE
   have s15:=s2.trans (s23.trans s5)
   walk_at "gs"
   refine⟨xa,ea,c,fs,zbF,rfl,s15.seq hxa,hE.rep,by simpa using l9',by simp[zbF,zgB],e9,zbK esm,λv H6 s6 n6=>?_⟩
   exact hR _ _ (s15.trans s6) (n6.back s15)
  ·walk_at "gs"
   obtain⟨a,rfl,_,hL⟩:=n1.ls
   exact q a _ s1 hL
def ze2 (first second:List Int) (times more:Int):List Int:=zbm more (addW times first second)
def zfv (K:Fg):Sp:=λvs H Q _=>∃ (a b:Addr) (f s:List Int) (times more:Int),vs=[.ref a,.ref b,.int times,.int more]∧SqL K H a (f.map V.int)∧SqL K H b (s.map V.int)∧f.length=9∧s.length=9∧(-(2 ^ 64)<times∧times<2 ^ 64)∧
 ∀ v H',Same H H'→New H H' (nums (ze2 f s times more)) v→Q v H'
theorem ziS {f:Addr}{fd:FuncData}(B:Bl K mg) {C:Nat→Addr}(Z:Zt K mg C)  (F:Fun K "_law_added" "_law_added" s_l_added f fd) (m:mg "_law_added"=some (.ref f)):Fn P w K mg base "_law_added" ["first","second","times","more"] 1 (zfv K):=by
 refine Fn.of (k:=0) F zft m (λ_ _ _ _ _ _ us hl=>match us,hl with | [_,_,_,_],_=>rfl) (λvs H Q E h=>?_) (λcdv A outer s H vs Q E hr h=>?_)
 ·first
  | (obtain⟨_,_,_,_,_,_,rfl,_⟩:=h;rfl)
 obtain⟨a,b,f,s,times,more,rfl,hA,hB,lf,ls,ht,q⟩:=h
 refine⟨_,(zah (zbb (i:=4) zft.nd rfl rfl rfl (CompOk.m (sc0:=zaf s_l_added) (N:=["first","second","times","more","found"]) (N':=["first","second","times","more","found","a","b"]) (ms:=[false,false,false,false,false,true,true])) (zgt K rfl B.zip (zad (pv 0) (zad (pv 1) zaa))) (λ_ _ _ _ _=>(zeL K (n:=2) rfl (zbs (zas (i:=5) (ndS (N:=["first","second","times","more","found","a","b"])) rfl (Or.inl rfl)) (zbs (zas (i:=6) (ndS (N:=["first","second","times","more","found","a","b"])) rfl (Or.inl rfl)) zdv)))) (λ_ _ _ _ _=>zaJ) (λ_ _ _ _ _=>(zau (zaF K) (pv 5) (zau zbi (pv 2) (pv 6)))))
   (zah (zew (zau (zaF K) (zav (k_ix K) (pv 4) zab (λ_ _=>rfl)) (pv 3)) (zfi (pv 4) zab zda))
   (zal (zaA (pv 4))))),?_⟩
 walk_at "q"
 walk_at "gs"
 refine⟨a,b,rfl,⟨_,hA⟩,⟨_,hB⟩,?_⟩
 refine zaO (n:=9) (zdK hA hB (by rw[zlm,zlm,lf,ls];rfl)) ((addW times f s).map D.int) (by rw[zlm];exact zcb lf ls) (by decide) (λj x' d H4 R hj hd s5 hx' hR=>?_) (λv H1 s1 n1=>?_)
 ·obtain⟨T2,u2,z2,rfl,hT2,e1,e2⟩:=hx'
  rw[zgm] at e1 e2
  obtain⟨s',hs',rfl⟩:=zme.mp e1
  obtain⟨n',hn',rfl⟩:=zme.mp e2
  have ed:d=.int (s' + n' * times):=by
   unfold addW at hd
   rw[zgm,List.getElem?_zipWith,hs',hn'] at hd
   cases hd
   rfl
  subst ed
  refine⟨T2,_,rfl,SqT.of hT2,rfl,⟨_,_,rfl,?_⟩⟩
  refine⟨_,_,rfl,?_⟩
  refine⟨rfl,?_⟩
  walk_at "gs"
  rw[Int.mul_comm times n']
  exact hR _ _ (Same.refl _) New.int
 obtain⟨na,rfl,na0,na1⟩:=New.ints_iff.mp n1
 have l9:=zcb (w:=times) lf ls
 obtain⟨c,fs,ec⟩:∃ c fs,addW times f s=c::fs:=by
  cases e:addW times f s with
  | nil=>rw[e] at l9;simp at l9
  | cons c fs=>exact⟨c,fs,rfl⟩
 rw[ec] at na1
 walk_at "gs"
 walk_at "q"
 walk_at "gs"
 refine zbE (SqL.of na1) (v:=.int c) zar ?_
 walk_at "gs"
 refine zeK na1 ix0 ?_
 walk_at "gs"
 refine q _ _ (s1.put na0) (New.ints_iff.mpr ⟨na,rfl,na0,?_⟩)
 rw[zac]
 unfold ze2
 rw[ec]
 rfl
def lOk (n:Nat):Dd→Prop
 | .set h l=>(0≤h∧h<8)∧l.length=9∧Sm l
 | .part h l b=>(0≤h∧h<8)∧l.length=9∧(-1000000<b∧b<1000000)
 | .draw h _ _=>0≤h∧h<8
 | .turn l p=>l.length=9∧0≤p∧p≤(n:Int)
 | .hold l=>l.length=9
 | .call _ g0 g1 t0 t1=>(0≤g0∧0≤g1)∧(0≤t0∧t0<8)∧(0≤t1∧t1<8)
def zfw (H:Hp) (kvs:List (Key × V)) (oath:Oath):Dd→Prop
 | .call m _ _ _ _=>∃ T a b,valV kvs (.inl m)=some (.ref T)∧H T=some (.tup [.ref a,.ref b])∧Ls H a (oath m).1∧Ls H b (oath m).2∧(oath m).1.length≤100∧(oath m).2.length≤100∧(∀ l∈(oath m).1,l.length=9)∧∀ l∈(oath m).2,l.length=9
 | _=>True
theorem zfw.same {H H':Hp}{kvs:List (Key × V)}{oath:Oath}{d:Dd}(h:zfw H kvs oath d) (e:Same H H'):zfw H' kvs oath d:=by
 cases d with
 | call m g0 g1 t0 t1=>
  obtain⟨T,a,b,h1,h2,h3,h4,h5⟩:=h
  exact⟨T,a,b,h1,e _ _ h2,h3.same e,h4.same e,h5⟩
 | _=>trivial
theorem ze3 {A:List (List Int)}(h:∀ l∈A,l.length=9) (M:List (List Int)):(A.map λx=>(zaG x (zaC λ_=>none),M))=A.map λx=>(x,M):=
 List.map_congr_left λx hx=>by rw[show zaG x (zaC λ_=>none)=x from zgH (h x hx)]
theorem zcf {a b:Str}(h:decide (a=b)=false):decide (b=a)=false:=decide_eq_false λz=>of_decide_eq_false h z.symm
theorem zf2 {l:List Int}{i:Nat}{x:V}{d:D}(hx:(l.map V.int)[i]?=some x) (hd:((l.map λz=>-z).map D.int)[i]?=some d):∃ z:Int,x=.int z∧d=.int (-z):=by
 rw[zgm] at hx
 obtain⟨z,hz,rfl⟩:=zme.mp hx
 rw[zgm,zgm,hz] at hd
 cases hd
 exact⟨z,rfl,rfl⟩
theorem zkd {l:List Int}(h:l.length=9):∃ c fs,l=c::fs∧fs.length=8:=by
 cases l with
 | nil=>simp at h
 | cons c fs=>exact⟨c,fs,rfl,by simpa using h⟩
theorem ziT {k:Int}{l:List Int}(h9:l.length=9) (hs:Sm l):∀ x∈zaC (ch1 k l),x.length=9∧Sm x:=λz hz=>⟨zaN (P:=λl=>l.length=9) (λi=>zak i) (zc5 h9) z hz,zaN (λi=>zaQ i) (zc5 hs) z hz⟩
theorem zk4 {k j:Int}{l m:List Int}(h9:l.length=9) (hs:Sm l) (k9:m.length=9) (ks:Sm m):∀ x∈zaC (ch2 k l j m),x.length=9∧Sm x:=λz hz=>⟨zaN (P:=λl=>l.length=9) (λi=>zak i) (zea h9 k9) z hz,zaN (λi=>zaQ i) (zea hs ks) z hz⟩
theorem znT:∀ x∈zaC (λ_=>none),x.length=9∧Sm x:=λz hz=>⟨zaN (P:=λl=>l.length=9) (λi=>zak i) (λ_ _ e=>by cases e) z hz,zaN (λi=>zaQ i) (λ_ _ e=>by cases e) z hz⟩
theorem za8 {l:List Int}{E:List (List Int)}(h:∀ x∈E,x.length=9):(zaG l E).length=9:=by
 have hs:=zaL (ws:=l.tail) h
 unfold zaG
 cases e:zbr E l.tail with
 | nil=>rw[e] at hs;simp at hs
 | cons x r=>rw[e] at hs;simpa [zbm] using hs
def zcO (K:Fg):Sp:=λvs H Q _=>∃ (v:V) (oa:Addr) (place:Nat) (needs leaves:List (List Int)) (deeds:List Dd) (notes:List (List (List Int))) (kvs:List (Key × V)) (oath:Oath) (d:Dd),vs=[v,.int place,.ref oa]∧zdl H v needs leaves deeds notes∧Good needs leaves deeds.length notes∧deeds[place]?=some d∧lOk deeds.length d∧H oa=some (.dK kvs)∧zfw H kvs oath d∧
 ∀ a H',Same H H'→zaZ H' a (zbG (dueL leaves notes place) (dueL leaves notes (place+1)) (dueL leaves notes) oath d)→Q (.ref a) H'
theorem zer {f:Addr}{fd:FuncData}(B:Bl K mg) {C:Nat→Addr}(Z:Zt K mg C) (G_l_due_at:Fn P w K mg base "_law_due_at" ["parts","place"] 3 (zdF K)) (G_l_eight:Fn P w K mg base "_law_eight" ["changes"] 2 (zbY K)) (G_l_bare:Fn P w K mg base "_law_bare" ["i"] 1 (zcy K)) (G_l_added:Fn P w K mg base "_law_added" ["first","second","times","more"] 1 (zfv K)) (G_l_alone:Fn P w K mg base "_law_alone" ["line","eight","notes"] 2 (zed K)) (G_l_turned:Fn P w K mg base "_law_turned" ["line","eight"] 1 (zcI K)) (F:Fun K "_law_deed_duties" "_law_deed_duties" s_l_deed_duties f fd) (m:mg "_law_deed_duties"=some (.ref f)):Fn P w K mg base "_law_deed_duties" ["parts","place","others"] 4 (zcO K):=by
 refine Fn.of (k:=3) F zan m (λ_ _ _ _ _ _ us hl=>match us,hl with | [_,_,_],_=>rfl) (λvs H Q E h=>?_) (λcdv A outer s H vs Q E hr h=>?_)
 ·first
  | (obtain⟨_,_,_,_,_,_,_,_,_,_,rfl,_⟩:=h;rfl)
 obtain⟨v,oa,place,needs,leaves,deeds,notes,kvs,oath,d,rfl,hP,hg,hd,ok,hoa,hcl,q⟩:=h
 refine⟨_,(zah (zew (zbg (zaT (zav (k_ix K) (zav (k_ix K) (pv 0) zab (λ_ _=>rfl)) (pv 1) (λ_ _=>rfl)) (zaT (zav (k_ix K) (zav (k_ix K) (pv 0) zab (λ_ _=>rfl)) (pv 1) (λ_ _=>rfl)) zaa))) (zeL K (n:=2) rfl (zbs (zas (i:=3) zan.nd rfl (Or.inr rfl)) (zbs (zas (i:=4) zan.nd rfl (Or.inr rfl)) zdv))))
   (zah (zaB (i:=5) zan.nd rfl (Or.inl rfl) (zao G_l_due_at hr rfl (zad (pv 0) (zaU (zau (zaF K) (pv 1) zab) zaa))))
   (zah (zaB (i:=6) zan.nd rfl (Or.inr rfl) (zao G_l_eight hr rfl (zbh (zaH zaa) zaa)))
   (zah (zaB (i:=7) zan.nd rfl (Or.inl rfl) (zaH zaa))
   (zah (zaB (i:=8) zan.nd rfl (Or.inr rfl) (zaH zaa))
   (zah (zaB (i:=9) zan.nd rfl (Or.inl rfl) (zao G_l_bare hr rfl (zai zab zaa)))
   (zah (zbB (zaR (k_eq K hr) (zav (k_ix K) (pv 3) zab (λ_ _=>rfl)) zbN (za1 _)) (zal (zaB (i:=6) zan.nd rfl (Or.inr rfl) (zao G_l_eight hr rfl (zbh (zaH (zb7 (zbg (zaT (zav (k_ix K) (pv 3) zab (λ_ _=>rfl)) (zaT (zav (k_ix K) (pv 3) zab (λ_ _=>rfl)) zaa))) zaa)) zaa)))) zaP)
   (zah (zbB (zaR (k_eq K hr) (zav (k_ix K) (pv 3) zab (λ_ _=>rfl)) zbN (za1 _)) (zah (zaB (i:=6) zan.nd rfl (Or.inr rfl) (zao G_l_eight hr rfl (zbh (zaH (zb7 (zbg (zaT (zav (k_ix K) (pv 3) zab (λ_ _=>rfl)) (zad (pv 9) zaa))) zaa)) zaa)))
   (zah (zaB (i:=10) zan.nd rfl (Or.inl rfl) (zao G_l_added hr rfl (zaT (zav (k_ix K) (pv 3) zab (λ_ _=>rfl)) (zad (pv 9) (zfa (zdG zch (zav (k_ix K) (pv 3) zab (λ_ _=>rfl))) (zai zab zaa))))))
   (zal (zaB (i:=8) zan.nd rfl (Or.inr rfl) (zaH (zad (pv 10) (zfK (zbf rfl (CompOk.m (sc0:=zaf s_l_deed_duties) (N:=["parts","place","others","deed","notes","follow","eight","front","more","new","under","up"]) (N':=["parts","place","others","deed","notes","follow","eight","front","more","new","under","up","x"]) (ms:=[false,false,false,false,false,false,false,false,false,false,false,false,true])) (za3 K (zao G_l_added hr rfl (zad (pv 10) (zad (pv 9) (zai zab (zaU (zau zex zab (zav (k_ix K) (pv 3) zab (λ_ _=>rfl))) zaa)))))) (λ_ _ _ _ _=>(zas (i:=12) (ndS (N:=["parts","place","others","deed","notes","follow","eight","front","more","new","under","up","x"])) rfl (Or.inl rfl))) (λ_ _ _ _ _=>zaJ) (λ_ _ _ _ _=>(zdG zch (pv 12)))) zaa))))))) zaP)
   (zah (zbB (zaR (k_eq K hr) (zav (k_ix K) (pv 3) zab (λ_ _=>rfl)) zbN (za1 _)) (zah (zaB (i:=6) zan.nd rfl (Or.inr rfl) (zao G_l_eight hr rfl (zbh (zaH (zb7 (zbg (zaT (zav (k_ix K) (pv 3) zab (λ_ _=>rfl)) (zad (pv 9) zaa))) zaa)) zaa)))
   (zal (zaB (i:=8) zan.nd rfl (Or.inr rfl) (zaH (zaz (zao G_l_added hr rfl (zad (pv 9) (zad (pv 9) (zai zab (zfa (zdG zch (zav (k_ix K) (pv 3) zab (λ_ _=>rfl))) zaa))))) (zaU (zau (zaF K) (zaH (zaU (zau zex (zav (k_ix K) (pv 3) zab (λ_ _=>rfl)) (zav (k_ix K) (pv 9) zab (λ_ _=>rfl))) zaa)) (zbf rfl (CompOk.m (sc0:=zaf s_l_deed_duties) (N:=["parts","place","others","deed","notes","follow","eight","front","more","new","under","up"]) (N':=["parts","place","others","deed","notes","follow","eight","front","more","new","under","up","x"]) (ms:=[false,false,false,false,false,false,false,false,false,false,false,false,true])) (za3 K (zci (k_sl K) (pv 9) (zcA zab) zdz)) (λ_ _ _ _ _=>(zas (i:=12) (ndS (N:=["parts","place","others","deed","notes","follow","eight","front","more","new","under","up","x"])) rfl (Or.inl rfl))) (λ_ _ _ _ _=>zaJ) (λ_ _ _ _ _=>(zdG zch (pv 12))))) zaa)))))) zaP)
   (zah (zbB (zaR (k_eq K hr) (zav (k_ix K) (pv 3) zab (λ_ _=>rfl)) zbN (za1 _)) (zah (zbb (i:=7) zan.nd rfl rfl rfl (CompOk.m (sc0:=zaf s_l_deed_duties) (N:=["parts","place","others","deed","notes","follow","eight","front","more","new","under","up"]) (N':=["parts","place","others","deed","notes","follow","eight","front","more","new","under","up","line"]) (ms:=[false,false,false,false,false,false,false,false,false,false,false,false,true])) (za3 K (zao G_l_due_at hr rfl (zad (pv 0) (zaT (zav (k_ix K) (pv 3) zab (λ_ _=>rfl)) zaa)))) (λ_ _ _ _ _=>(zas (i:=12) (ndS (N:=["parts","place","others","deed","notes","follow","eight","front","more","new","under","up","line"])) rfl (Or.inl rfl))) (λ_ _ _ _ _=>zaJ) (λ_ _ _ _ _=>(zbg (zad (pv 12) (zaU (zau (zaF K) (pv 4) (zaH (zaT (zav (k_ix K) (pv 3) zab (λ_ _=>rfl)) zaa))) zaa)))))
   (zal (zaB (i:=8) zan.nd rfl (Or.inr rfl) (zaH (zaU (zau (zaF K) (zaH (zaU (zau zex (zdG zch (zav (k_ix K) (zav (k_ix K) (pv 3) zab (λ_ _=>rfl)) zab (λ_ _=>rfl))) zab) zaa)) (zbf rfl (CompOk.m (sc0:=zaf s_l_deed_duties) (N:=["parts","place","others","deed","notes","follow","eight","front","more","new","under","up"]) (N':=["parts","place","others","deed","notes","follow","eight","front","more","new","under","up","x"]) (ms:=[false,false,false,false,false,false,false,false,false,false,false,false,true])) (za3 K (zci (k_sl K) (zav (k_ix K) (pv 3) zab (λ_ _=>rfl)) (zcA zab) zdz)) (λ_ _ _ _ _=>(zas (i:=12) (ndS (N:=["parts","place","others","deed","notes","follow","eight","front","more","new","under","up","x"])) rfl (Or.inl rfl))) (λ_ _ _ _ _=>zaJ) (λ_ _ _ _ _=>(zdG zch (pv 12))))) zaa))))) zaP)
   (zah (zbB (zaR (k_eq K hr) (zav (k_ix K) (pv 3) zab (λ_ _=>rfl)) zbN (za1 _)) (zah (zaB (i:=7) zan.nd rfl (Or.inl rfl) (zaH (zb7 (zbg (zaT (zav (k_ix K) (pv 3) zab (λ_ _=>rfl)) (zad (pv 4) zaa))) zaa)))
   (zal (zaB (i:=8) zan.nd rfl (Or.inr rfl) (zaH (zaT (zav (k_ix K) (pv 3) zab (λ_ _=>rfl)) zaa))))) zaP)
   (zah (zbB (zaR (k_eq K hr) (zav (k_ix K) (pv 3) zab (λ_ _=>rfl)) zbN (za1 _)) (zah (zaB (i:=11) zan.nd rfl (Or.inr rfl) (zao G_l_eight hr rfl (zbh (zaH (zb7 (zbg (zai zab (zaz (zao G_l_bare hr rfl (zaT (zav (k_ix K) (zav (k_ix K) (pv 3) zab (λ_ _=>rfl)) zab (λ_ _=>rfl)) zaa)) zaa))) (zb7 (zbg (zai zab (zaz (zao G_l_bare hr rfl (zaT (zav (k_ix K) (zav (k_ix K) (pv 3) zab (λ_ _=>rfl)) zab (λ_ _=>rfl)) zaa)) zaa))) zaa))) zaa)))
   (zah (zaB (i:=6) zan.nd rfl (Or.inr rfl) (zao G_l_eight hr rfl (zbh (zaH (zb7 (zbg (zaT (zav (k_ix K) (zav (k_ix K) (pv 3) zab (λ_ _=>rfl)) zab (λ_ _=>rfl)) (zad (pv 9) zaa))) (zb7 (zbg (zaT (zav (k_ix K) (zav (k_ix K) (pv 3) zab (λ_ _=>rfl)) zab (λ_ _=>rfl)) (zaz (zao G_l_bare hr rfl (zai zab zaa)) zaa))) zaa))) zaa)))
   (zah (zbb (i:=7) zan.nd rfl rfl rfl (CompOk.m (sc0:=zaf s_l_deed_duties) (N:=["parts","place","others","deed","notes","follow","eight","front","more","new","under","up"]) (N':=["parts","place","others","deed","notes","follow","eight","front","more","new","under","up","line"]) (ms:=[false,false,false,false,false,false,false,false,false,false,false,false,true])) (za3 K (zav (k_ix K) (zfD (hr_u hr) (pv 2) (zav (k_ix K) (pv 3) zab (λ_ _=>rfl)) (λ_ _=>rfl)) zab (λ_ _=>rfl))) (λ_ _ _ _ _=>(zas (i:=12) (ndS (N:=["parts","place","others","deed","notes","follow","eight","front","more","new","under","up","line"])) rfl (Or.inl rfl))) (λ_ _ _ _ _=>zaJ) (λ_ _ _ _ _=>(zao G_l_alone hr rfl (zad (pv 12) (zad (pv 11) (zad (pv 4) zaa))))))
   (zal (zaB (i:=8) zan.nd rfl (Or.inr rfl) (zbf rfl (CompOk.m (sc0:=zaf s_l_deed_duties) (N:=["parts","place","others","deed","notes","follow","eight","front","more","new","under","up"]) (N':=["parts","place","others","deed","notes","follow","eight","front","more","new","under","up","line"]) (ms:=[false,false,false,false,false,false,false,false,false,false,false,false,true])) (za3 K (zav (k_ix K) (zfD (hr_u hr) (pv 2) (zav (k_ix K) (pv 3) zab (λ_ _=>rfl)) (λ_ _=>rfl)) zab (λ_ _=>rfl))) (λ_ _ _ _ _=>(zas (i:=12) (ndS (N:=["parts","place","others","deed","notes","follow","eight","front","more","new","under","up","line"])) rfl (Or.inl rfl))) (λ_ _ _ _ _=>zaJ) (λ_ _ _ _ _=>(zao G_l_turned hr rfl (zad (pv 12) (zad (pv 11) zaa)))))))))) zaP)
   (zal (zaA (zau (zaF K) (pv 7) (zbf rfl (CompOk.m (sc0:=zaf s_l_deed_duties) (N:=["parts","place","others","deed","notes","follow","eight","front","more","new","under","up"]) (N':=["parts","place","others","deed","notes","follow","eight","front","more","new","under","up","line"]) (ms:=[false,false,false,false,false,false,false,false,false,false,false,false,true])) (za3 K (pv 5)) (λ_ _ _ _ _=>(zas (i:=12) (ndS (N:=["parts","place","others","deed","notes","follow","eight","front","more","new","under","up","line"])) rfl (Or.inl rfl))) (λ_ _ _ _ _=>zaJ) (λ_ _ _ _ _=>(zao G_l_alone hr rfl (zad (pv 12) (zad (pv 6) (zaU (zau (zaF K) (pv 4) (pv 8)) zaa))))))))))))))))))))),?_⟩
 obtain⟨k1,k2,k3,k4,k5,k6,k7,k8,k9,k10,k11,k12,k13,k14,k15⟩:=zh6
 have lp:place<deeds.length:=(zge.mp hd).1
 have hP0:=hP
 obtain⟨pa,y1,y2,a3,a4,dvs,nvs,rfl,hpa,r1,r2,h3,h4,dr,nr⟩:=hP
 obtain⟨x,hx,rx⟩:=R2.get dr lp
 rw[List.getElem?_eq_getElem lp] at hd
 cases hd
 generalize hdd:deeds[place]=d at rx ok hcl q
 obtain⟨t,ys,rfl,htup⟩:=zfP rx
 have lpn:place<notes.length:=by rw[←hg.dn];exact lp
 obtain⟨_,hnx,na,rfl,hN⟩:=R2.get nr lpn
 have eN:dueL leaves notes (place:Int)=notes[place]:=by
  unfold dueL
  rw[if_neg (by omega),List.getD_eq_getElem?_getD,show ((place:Int)).toNat=place by omega,List.getElem?_eq_getElem lpn]
  rfl
 walk_at "q"
 walk_at "gs"
 refine zbE (SqL.of hpa) (v:=.ref a3) (zap (j:=2) rfl) ?_
 walk_at "gs"
 refine zbE (SqL.of h3) (v:=.ref t) (zap hx) ?_
 walk_at "gs"
 refine zbE (SqL.of hpa) (v:=.ref a4) (zap (j:=3) rfl) ?_
 walk_at "gs"
 refine zbE (SqL.of h4) (v:=.ref na) (zap hnx) ?_
 walk_at "gs"
 refine⟨zag (by simp),λT0 hT0=>?_⟩
 have t0:=zae hT0 (.tup [V.ref t,.ref na])
 walk_at "gs"
 refine⟨T0,_,rfl,SqT.of zac,rfl,⟨_,_,rfl,?_⟩⟩
 refine⟨_,_,rfl,?_⟩
 refine⟨rfl,?_⟩
 walk_at "gs"
 walk_at "q"
 walk_at "gs"
 refine⟨_,(place:Int)+1,needs,leaves,deeds,notes,rfl,hP0.same t0,by omega,by omega,hg.dn,hg.l,hg.l9,λfa H1 s1 hA=>?_⟩
 have s01:=t0.trans s1
 walk_at "gs"
 walk_at "q"
 walk_at "gs"
 refine⟨zag (by simp),λp0 hp0=>?_⟩
 have u0:=zae hp0 (.lst ([]:List V))
 walk_at "gs"
 refine zk3 zac λea H2 s2 ea0 hE=>?_
 have s12:=u0.trans s2
 have s02:=s01.trans s12
 walk_at "gs"
 walk_at "q"
 walk_at "gs"
 refine⟨zag (by simp),λfr hfr=>?_⟩
 have u3:=zae hfr (.lst ([]:List V))
 walk_at "gs"
 walk_at "q"
 walk_at "gs"
 refine⟨zag (by simp),λmo hmo=>?_⟩
 have u4:=zae hmo (.lst ([]:List V))
 walk_at "gs"
 walk_at "q"
 walk_at "gs"
 refine zcH (by decide) λv H3 s3 n3=>?_
 obtain⟨nw,rfl,nw0,hnw⟩:=New.ints_iff.mp n3
 walk_at "gs"
 have s23:=u3.trans (u4.trans s3)
 have s03:=s02.trans s23
 have hE3:=hE.same s23
 have hfr3:H3 fr=some (.lst []):=s3 _ _ (u4 _ _ zac)
 have hmo3:H3 mo=some (.lst []):=s3 _ _ zac
 have hN3:=hN.same s03
 have hA3:=hA.same (s12.trans s23)
 have rx3:zb4 H3 (toD d) (.ref t):=rx.sq s03.sq
 rw[←eN] at hN3
 have gN:=hg.due (place:Int)
 have gA:=hg.due ((place:Int)+1)
 clear eN
 generalize dueL leaves notes (place:Int)=N at hN3 gN q
 generalize dueL leaves notes ((place:Int)+1)=A at hA3 gA q
 have hoa3:=s03 _ _ hoa
 have hcl3:=hcl.same s03
 have hP3:=hP0.same s03
 obtain⟨nvs',hna3,lna⟩:=hN3.len
 with_reducible refine znQ (λσ H'=>∃ (fr ea mo:Addr) (x y:Option V) (F:List Du) (E Mo:List (List Int)),σ=[some (.ref pa),some (.int place),some (.ref oa),some (.ref t),some (.ref na),some (.ref fa),some (.ref ea),some (.ref fr),some (.ref mo),some (.ref nw),x,y]∧Same H3 H'∧zaZ H' fr F∧F.length≤100∧Ls H' ea E∧E.length=8∧(∀ l∈E,l.length=9∧Sm l)∧Ls H' mo Mo∧Mo.length≤100∧(∀ l∈Mo,l.length=9)∧F++(A.map λx=>(zaG x E,N++Mo))=zbG N A (dueL leaves notes) oath d) (λNX tail=>?_) ?_
 case refine_2=>
  rintro σ H4 ⟨fr,ea,mo,x,y,F,E,Mo,rfl,s4,hF,lF,hE,lE,gE,hMo,lMo,gMo,e⟩
  obtain⟨fvs,hfr4,hF2⟩:=hF
  obtain⟨avs,hfa,lav⟩:=(hA3.same s4).len
  obtain⟨mas,hmo4,lmas,hmas⟩:=hMo
  have lfv:=hF2.1
  walk_at "gs"
  refine⟨fa,rfl,⟨_,SqL.of hfa⟩,?_⟩
  refine zdP (zaV (SqL.of hfa)) (A.map λx=>(zaG x E,N++Mo)) (by rw[zlm];omega) (zag (by omega)) (λg hg'=>?_) (λi x dd H5 R hi hd' s5 hx' hR=>?_) (λca H5 s5 ca0 hC=>?_)
  ·obtain⟨x,hx,rfl⟩:=zmm.mp hg'
   refine⟨za8 λl hl=>(gE l hl).1,λl hl=>?_⟩
   rcases zma.mp hl with z | z
   ·exact gN.2 l z
   ·exact gMo l z
  ·obtain⟨xa,l,rfl,hl,hxa⟩:=((hA3.same s4).same s5).item (s5 _ _ hfa) hx'
   rw[zgm,hl] at hd'
   cases hd'
   obtain⟨c,fs,rfl,lfs⟩:=zkd (gA.2 l (zmg hl))
   have s45:=s4.trans s5
   walk_at "gs"
   refine zbk (s45 _ _ hna3) (s5 _ _ hmo4) (zag (by rw[zlm];omega)) λp6 hp6=>?_
   have hL6:=Ls.more (p:=p6) (bs:=mas) (ms:=Mo) (hN3.same s45) (s45 _ _ hna3) lmas (λi a l e1 e2=>s5 _ _ (hmas i a l e1 e2)) hp6
   have t6:=zae hp6 (.lst (nvs'++mas.map V.ref))
   walk_at "gs"
   refine⟨xa,ea,p6,c,fs,E,rfl,SqL.of (t6 _ _ hxa),((hE.same s5).same t6).rep,lfs,lE,λl hl=>(gE l hl).1,zbK λl hl=>(gE l hl).2,λT ta H7 s7 hT7 hta=>?_⟩
   exact hR T ta p6 H7 (t6.trans s7) (.inr hp6) hT7 hta (hL6.same s7)
  ·obtain⟨cvs,hca,hC2⟩:=id hC
   have lcv:=hC2.1
   rw[zlm] at lcv
   walk_at "gs"
   refine zbk (s5 _ _ hfr4) hca (zag (by omega)) λp7 hp7=>?_
   refine q p7 _ ((s03.trans (s4.trans s5)).trans (zae hp7 _)) ?_
   rw[←e]
   exact zaZ.cat (zaZ.same s5 ⟨fvs,hfr4,hF2⟩) hC (s5 _ _ hfr4) hca hp7
 case refine_1=>
 have dd0:=zaZ.nil hfr3
 have mm0:=Ls.nil hmo3
 cases d with
 | set h l=>
  obtain⟨t',xs,et,hT2,px⟩:=za6 rx3
  cases et
  obtain⟨x0,r,rfl,e0,px⟩:=zam px
  obtain⟨x1,r,rfl,e1,px⟩:=zam px
  obtain⟨x2,r,rfl,e2,px⟩:=zam px
  cases zbn px;cases zbw e0
  cases za9 e1
  obtain⟨b2,rfl,hb2⟩:=zb2 e2
  obtain⟨⟨h0,h8⟩,l9,ls⟩:=ok
  with_reducible refine zfr (λQ2 q2=>?_) ?_
  ·walk_at "gs"
   refine zax (SqT.of hT2) zar ?_
   walk_at "gs"
   rw[decide_eq_true (rfl:("set" : Str) ="set")]
   exact q2
  walk_at "q"
  walk_at "gs"
  refine zax (SqT.of hT2) (v:=.int h) (zap (j:=1) rfl) ?_
  walk_at "gs"
  refine zax (SqT.of hT2) (v:=.ref b2) (zap (j:=2) rfl) ?_
  walk_at "gs"
  refine⟨zag (by simp),λT1 hT1=>?_⟩
  have t1:=zae hT1 (.tup [V.int h,.ref b2])
  walk_at "gs"
  refine⟨zag (by simp),λpl hpl=>?_⟩
  have t2:=zae hpl (.lst [V.ref T1])
  walk_at "gs"
  refine zf1 zac (t2 _ _ zac) (t2 _ _ (t1 _ _ hb2)) l9 h0 h8 λe' H4 s4 e0 hE4=>?_
  have s34:=t1.trans (t2.trans s4)
  walk_at "gs"
  with_reducible refine zaM (λQ2 q2=>?_) ?_
  ·walk_at "gs"
   refine zax (SqT.of (s34 _ _ hT2)) zar ?_
   walk_at "gs"
   rw[(zcf k1)]
   exact q2
  with_reducible refine zaM (λQ2 q2=>?_) ?_
  ·walk_at "gs"
   refine zax (SqT.of (s34 _ _ hT2)) zar ?_
   walk_at "gs"
   rw[(zcf k2)]
   exact q2
  with_reducible refine zaM (λQ2 q2=>?_) ?_
  ·walk_at "gs"
   refine zax (SqT.of (s34 _ _ hT2)) zar ?_
   walk_at "gs"
   rw[(zcf k4)]
   exact q2
  with_reducible refine zaM (λQ2 q2=>?_) ?_
  ·walk_at "gs"
   refine zax (SqT.of (s34 _ _ hT2)) zar ?_
   walk_at "gs"
   rw[(zcf k7)]
   exact q2
  with_reducible refine zaM (λQ2 q2=>?_) ?_
  ·walk_at "gs"
   refine zax (SqT.of (s34 _ _ hT2)) zar ?_
   walk_at "gs"
   rw[(zcf k11)]
   exact q2
  walk_at "gs"
  exact tail _ _ ⟨fr,e',mo,none,none,[],_,[],rfl,s34,dd0.same s34,by simp,hE4,zaE _,ziT l9 ls,mm0.same s34,by simp,by simp,by simp[zbG]⟩
 | part h l b=>
  obtain⟨t',xs,et,hT2,px⟩:=za6 rx3
  cases et
  obtain⟨x0,r,rfl,e0,px⟩:=zam px
  obtain⟨x1,r,rfl,e1,px⟩:=zam px
  obtain⟨x2,r,rfl,e2,px⟩:=zam px
  obtain⟨x3,r,rfl,e3,px⟩:=zam px
  cases zbn px;cases zbw e0
  cases za9 e1
  obtain⟨b2,rfl,hb2⟩:=zb2 e2
  cases za9 e3
  obtain⟨⟨h0,h8⟩,l9,hb⟩:=ok
  with_reducible refine zaM (λQ2 q2=>?_) ?_
  ·walk_at "gs"
   refine zax (SqT.of hT2) zar ?_
   walk_at "gs"
   rw[k1]
   exact q2
  with_reducible refine zfr (λQ2 q2=>?_) ?_
  ·walk_at "gs"
   refine zax (SqT.of hT2) zar ?_
   walk_at "gs"
   rw[decide_eq_true (rfl:("part" : Str) ="part")]
   exact q2
  walk_at "q"
  walk_at "q"
  walk_at "gs"
  refine zax (SqT.of hT2) (v:=.int h) (zap (j:=1) rfl) ?_
  walk_at "gs"
  refine⟨zag (by simp),λT1 hT1=>?_⟩
  have t1:=zae hT1 (.tup [V.int h,.ref nw])
  walk_at "gs"
  refine⟨zag (by simp),λpl hpl=>?_⟩
  have t2:=zae hpl (.lst [V.ref T1])
  walk_at "gs"
  refine zf1 zac (t2 _ _ zac) (t2 _ _ (t1 _ _ hnw)) (zak 6) h0 h8 λe' H4 s4 e0 hE4=>?_
  have s34:=t1.trans (t2.trans s4)
  walk_at "gs"
  walk_at "q"
  walk_at "gs"
  refine zax (SqT.of (s34 _ _ hT2)) (v:=.ref b2) (zap (j:=2) rfl) ?_
  walk_at "gs"
  refine zax (SqT.of (s34 _ _ hT2)) (v:=.int b) (zap (j:=3) rfl) ?_
  walk_at "gs"
  refine⟨b2,nw,l,zaq 6,-b,0,rfl,SqL.of (s34 _ _ hb2),SqL.of (s34 _ _ hnw),l9,zak 6,by omega,λv H5 s5 n5=>?_⟩
  rw[show ze2 l (zaq 6) (-b) 0=za4 l b from zgF l9] at n5
  obtain⟨ua,rfl,ua0,hua⟩:=New.ints_iff.mp n5
  have u9:(za4 l b).length=9:=by
   unfold za4;exact zaL λz hz=>by
    simp at hz
    rcases hz with rfl | rfl
    ·exact l9
    ·exact zak 6
  have s35:=s34.trans s5
  walk_at "gs"
  refine zax (SqT.of (s35 _ _ hT2)) (v:=.int b) (zap (j:=3) rfl) ?_
  walk_at "gs"
  refine⟨ua,nw,za4 l b,zaq 6,0,1 - b,rfl,SqL.of hua,SqL.of (s35 _ _ hnw),u9,zak 6,by decide,λv H6 s6 n6=>?_⟩
  obtain⟨aa,rfl,aa0,haa⟩:=New.ints_iff.mp n6
  refine⟨aa,rfl,⟨_,SqL.of haa⟩,?_⟩
  refine zaO (zaV (SqL.of haa)) (((ze2 (za4 l b) (zaq 6) 0 (1 - b)).map λz=>-z).map D.int) (by simp) (zag (by
   rw[zlm]
   have e:=congrArg List.length (zei (b:=b) l9)
   rw[zlm] at e
   have g9:(greatest l b).length=9:=by
    unfold greatest;exact zaL λz hz=>by
     simp at hz
     rcases hz with rfl | rfl | rfl
     ·exact zak 6
     ·exact zaX _
     ·exact l9
   rw[g9] at e
   rw[show ze2 (za4 l b) (zaq 6) 0 (1 - b)=zbm (1 - b) (addW 0 (za4 l b) (zaq 6)) from rfl,e];decide)) (λi x dd H7 R hi hd' s7 hx' hR=>?_) (λv H7 s7 n7=>?_)
  ·obtain⟨z,rfl,rfl⟩:=zf2 hx' hd'
   walk_at "gs"
   exact hR _ _ (Same.refl _) New.int
  rw[show ((ze2 (za4 l b) (zaq 6) 0 (1 - b)).map λz=>-z)=greatest l b from zei l9] at n7
  obtain⟨ga,rfl,ga0,hga⟩:=New.ints_iff.mp n7
  walk_at "gs"
  refine⟨zag (by simp),λmo' hmo'=>?_⟩
  have t8:=zae hmo' (.lst [V.ref ua,.ref ga])
  have s57:=s6.trans s7
  have s38:=(s35.trans s57).trans t8
  have g9:(greatest l b).length=9:=by
   unfold greatest;exact zaL λz hz=>by
    simp at hz
    rcases hz with rfl | rfl | rfl
    ·exact zak 6
    ·exact zaX _
    ·exact l9
  walk_at "gs"
  with_reducible refine zaM (λQ2 q2=>?_) ?_
  ·walk_at "gs"
   refine zax (SqT.of (s38 _ _ hT2)) zar ?_
   walk_at "gs"
   rw[(zcf k3)]
   exact q2
  with_reducible refine zaM (λQ2 q2=>?_) ?_
  ·walk_at "gs"
   refine zax (SqT.of (s38 _ _ hT2)) zar ?_
   walk_at "gs"
   rw[(zcf k5)]
   exact q2
  with_reducible refine zaM (λQ2 q2=>?_) ?_
  ·walk_at "gs"
   refine zax (SqT.of (s38 _ _ hT2)) zar ?_
   walk_at "gs"
   rw[(zcf k8)]
   exact q2
  with_reducible refine zaM (λQ2 q2=>?_) ?_
  ·walk_at "gs"
   refine zax (SqT.of (s38 _ _ hT2)) zar ?_
   walk_at "gs"
   rw[(zcf k12)]
   exact q2
  walk_at "gs"
  exact tail _ _ ⟨fr,e',mo',_,none,[],_,[za4 l b,greatest l b],rfl,s38,dd0.same s38,by simp,hE4.same (s5.trans (s57.trans t8)),zaE _,ziT (zak 6) (zaQ 6),Ls.twos zac (t8 _ _ (s57 _ _ hua)) (t8 _ _ hga),by simp,λz hz=>by
   simp at hz
   rcases hz with rfl | rfl
   ·exact u9
   ·exact g9,by simp[zbG]⟩
 | draw h lo hi=>
  obtain⟨t',xs,et,hT2,px⟩:=za6 rx3
  cases et
  obtain⟨x0,r,rfl,e0,px⟩:=zam px
  obtain⟨x1,r,rfl,e1,px⟩:=zam px
  obtain⟨x2,r,rfl,e2,px⟩:=zam px
  obtain⟨x3,r,rfl,e3,px⟩:=zam px
  cases zbn px;cases zbw e0
  cases za9 e1
  cases za9 e2
  cases za9 e3
  obtain⟨h0,h8⟩:=ok
  with_reducible refine zaM (λQ2 q2=>?_) ?_
  ·walk_at "gs"
   refine zax (SqT.of hT2) zar ?_
   walk_at "gs"
   rw[k2]
   exact q2
  with_reducible refine zaM (λQ2 q2=>?_) ?_
  ·walk_at "gs"
   refine zax (SqT.of hT2) zar ?_
   walk_at "gs"
   rw[k3]
   exact q2
  with_reducible refine zfr (λQ2 q2=>?_) ?_
  ·walk_at "gs"
   refine zax (SqT.of hT2) zar ?_
   walk_at "gs"
   rw[decide_eq_true (rfl:("draw" : Str) ="draw")]
   exact q2
  walk_at "q"
  walk_at "q"
  walk_at "gs"
  refine zax (SqT.of hT2) (v:=.int h) (zap (j:=1) rfl) ?_
  walk_at "gs"
  refine⟨zag (by simp),λT1 hT1=>?_⟩
  have t1:=zae hT1 (.tup [V.int h,.ref nw])
  walk_at "gs"
  refine⟨zag (by simp),λpl hpl=>?_⟩
  have t2:=zae hpl (.lst [V.ref T1])
  walk_at "gs"
  refine zf1 zac (t2 _ _ zac) (t2 _ _ (t1 _ _ hnw)) (zak 6) h0 h8 λe' H4 s4 e0 hE4=>?_
  have s34:=t1.trans (t2.trans s4)
  walk_at "gs"
  refine zax (SqT.of (s34 _ _ hT2)) (v:=.int lo) (zap (j:=2) rfl) ?_
  walk_at "gs"
  refine⟨nw,nw,zaq 6,zaq 6,0,-lo,rfl,SqL.of (s34 _ _ hnw),SqL.of (s34 _ _ hnw),zak 6,zak 6,by decide,λv H5 s5 n5=>?_⟩
  rw[show ze2 (zaq 6) (zaq 6) 0 (-lo)=zb5 lo from zhq] at n5
  obtain⟨ua,rfl,ua0,hua⟩:=New.ints_iff.mp n5
  have s35:=s34.trans s5
  walk_at "gs"
  refine zax (SqT.of (s35 _ _ hT2)) (v:=.int hi) (zap (j:=3) rfl) ?_
  walk_at "gs"
  refine zbE (SqL.of (s35 _ _ hnw)) (v:=.int 0) (by rw[ziz];rfl) ?_
  walk_at "gs"
  refine⟨zag (by simp),λq1 hq1=>?_⟩
  have t6:=zae hq1 (.lst [V.int (hi - 0)])
  walk_at "gs"
  refine zhn (SqL.of (t6 _ _ (s35 _ _ hnw))) λq2 hq2=>?_
  rw[show cutV ((zaq 6).map V.int) (some 1) none=([0,0,0,0,0,0,1,0]:List Int).map V.int by rw[zgz (by decide) (by simp[zaq]),ziz];rfl]
  have t7:=zae hq2 (.lst (([0,0,0,0,0,0,1,0]:List Int).map V.int))
  refine⟨q2,rfl,⟨_,SqL.of zac⟩,?_⟩
  refine zaO (zaV (SqL.of zac)) ((([0,0,0,0,0,0,1,0]:List Int).map λz=>-z).map D.int) (by simp) (zag (by simp)) (λi x dd H7 R hi hd' s7 hx' hR=>?_) (λv H7 s7 n7=>?_)
  ·obtain⟨z,rfl,rfl⟩:=zf2 hx' hd'
   walk_at "gs"
   exact hR _ _ (Same.refl _) New.int
  obtain⟨na',rfl,na0',hna'⟩:=New.ints_iff.mp n7
  walk_at "gs"
  refine zbk (s7 _ _ (t7 _ _ zac)) hna' (zag (by simp)) λq3 hq3=>?_
  rw[show ([V.int (hi - 0)]++(([0,0,0,0,0,0,1,0]:List Int).map λz=>-z).map V.int)=(zcx hi).map V.int by rw[←ziA];rfl]
  have t8:=zae hq3 (.lst ((zcx hi).map V.int))
  walk_at "gs"
  refine⟨zag (by simp),λmo' hmo'=>?_⟩
  have t9:=zae hmo' (.lst [V.ref ua,.ref q3])
  have s58:=t6.trans (t7.trans (s7.trans (t8.trans t9)))
  have s38:=s35.trans s58
  have m9:∀ z∈[zb5 lo,zcx hi],z.length=9:=λz hz=>by
   simp at hz
   rcases hz with rfl | rfl
   ·unfold zb5;exact zaL λz hz=>by
     simp at hz
     rcases hz with rfl | rfl
     ·exact zak 6
     ·exact zaX _
   ·unfold zcx;exact zaL λz hz=>by
     simp at hz
     rcases hz with rfl | rfl
     ·exact zaX _
     ·exact zak 6
  walk_at "gs"
  with_reducible refine zaM (λQ2 q2=>?_) ?_
  ·walk_at "gs"
   refine zax (SqT.of (s38 _ _ hT2)) zar ?_
   walk_at "gs"
   rw[(zcf k6)]
   exact q2
  with_reducible refine zaM (λQ2 q2=>?_) ?_
  ·walk_at "gs"
   refine zax (SqT.of (s38 _ _ hT2)) zar ?_
   walk_at "gs"
   rw[(zcf k9)]
   exact q2
  with_reducible refine zaM (λQ2 q2=>?_) ?_
  ·walk_at "gs"
   refine zax (SqT.of (s38 _ _ hT2)) zar ?_
   walk_at "gs"
   rw[(zcf k13)]
   exact q2
  walk_at "gs"
  exact tail _ _ ⟨fr,e',mo',none,none,[],_,[zb5 lo,zcx hi],rfl,s38,dd0.same s38,by simp,hE4.same (s5.trans s58),zaE _,ziT (zak 6) (zaQ 6),Ls.twos zac (s58 _ _ hua) (t9 _ _ zac),by simp,m9,by simp[zbG]⟩
 | turn l p2=>
  obtain⟨t',xs,et,hT2,px⟩:=za6 rx3
  cases et
  obtain⟨x0,r,rfl,e0,px⟩:=zam px
  obtain⟨x1,r,rfl,e1,px⟩:=zam px
  obtain⟨x2,r,rfl,e2,px⟩:=zam px
  cases zbn px;cases zbw e0
  obtain⟨b1,rfl,hb1⟩:=zb2 e1
  cases za9 e2
  obtain⟨l9,q0,qn⟩:=ok
  obtain⟨c,fs,rfl,lfs⟩:=zkd l9
  with_reducible refine zaM (λQ2 q2=>?_) ?_
  ·walk_at "gs"
   refine zax (SqT.of hT2) zar ?_
   walk_at "gs"
   rw[k4]
   exact q2
  with_reducible refine zaM (λQ2 q2=>?_) ?_
  ·walk_at "gs"
   refine zax (SqT.of hT2) zar ?_
   walk_at "gs"
   rw[k5]
   exact q2
  with_reducible refine zaM (λQ2 q2=>?_) ?_
  ·walk_at "gs"
   refine zax (SqT.of hT2) zar ?_
   walk_at "gs"
   rw[k6]
   exact q2
  with_reducible refine zfr (λQ2 q2=>?_) ?_
  ·walk_at "gs"
   refine zax (SqT.of hT2) zar ?_
   walk_at "gs"
   rw[decide_eq_true (rfl:("turn" : Str) ="turn")]
   exact q2
  walk_at "q"
  walk_at "q"
  walk_at "gs"
  refine zax (SqT.of hT2) (v:=.int p2) (zap (j:=2) rfl) ?_
  walk_at "gs"
  refine⟨_,p2,needs,leaves,deeds,notes,rfl,hP3,q0,qn,hg.dn,hg.l,hg.l9,λta H4 s4 hTh=>?_⟩
  have gT:=hg.due p2
  obtain⟨tvs,hta,ltv⟩:=hTh.len
  refine⟨ta,rfl,⟨_,SqL.of hta⟩,?_⟩
  refine zdP (zaV (SqL.of hta)) ((dueL leaves notes p2).map λg=>(g,N++[c::fs])) (by rw[zlm];omega) (zag (by omega)) (λg hg'=>?_) (λi x dd H5 R hi hd' s5 hx' hR=>?_) (λca H5 s5 ca0 hC=>?_)
  ·obtain⟨x,hx,rfl⟩:=zmm.mp hg'
   refine⟨gT.2 x hx,λl hl=>?_⟩
   rcases zma.mp hl with z | z
   ·exact gN.2 l z
   ·rw[zms.mp z];exact l9
  ·obtain⟨xa,l,rfl,hl,hxa⟩:=(hTh.same s5).item (s5 _ _ hta) hx'
   rw[zgm,hl] at hd'
   cases hd'
   have s45:=s4.trans s5
   walk_at "gs"
   refine zax (SqT.of (s45 _ _ hT2)) (v:=.ref b1) (zap (j:=1) rfl) ?_
   walk_at "gs"
   refine⟨zag (by simp),λp5 hp5=>?_⟩
   have t5:=zae hp5 (.lst [V.ref b1])
   walk_at "gs"
   refine zbk (t5 _ _ (s45 _ _ hna3)) zac (zag (by simp;omega)) λp6 hp6=>?_
   have hL6:=Ls.more (p:=p6) (bs:=[b1]) (ms:=[c::fs]) ((hN3.same s45).same t5) (t5 _ _ (s45 _ _ hna3)) rfl (zdd (t5 _ _ (s45 _ _ hb1))) hp6
   have t6:=zae hp6 (.lst (nvs'++[V.ref b1]))
   walk_at "gs"
   refine⟨zag (by simp),λT hT=>?_⟩
   have t7:=zae hT (.tup [V.ref xa,.ref p6])
   exact hR T xa p6 _ (t5.trans (t6.trans t7)) (.inr (t5.free hp6)) zac (t7 _ _ (t6 _ _ (t5 _ _ hxa))) (hL6.same t7)
  have s35:=s4.trans s5
  walk_at "gs"
  refine zax (SqT.of (s35 _ _ hT2)) (v:=.ref b1) (zap (j:=1) rfl) ?_
  walk_at "gs"
  refine zbE (SqL.of (s35 _ _ hb1)) (v:=.int c) zar ?_
  walk_at "gs"
  refine⟨zag (by simp),λq1 hq1=>?_⟩
  have t6:=zae hq1 (.lst [V.int (-c - 1)])
  walk_at "gs"
  refine zax (SqT.of (t6 _ _ (s35 _ _ hT2))) (v:=.ref b1) (zap (j:=1) rfl) ?_
  walk_at "gs"
  refine zhn (SqL.of (t6 _ _ (s35 _ _ hb1))) λq2 hq2=>?_
  rw[show cutV ((c::fs).map V.int) (some 1) none=fs.map V.int by rw[zgz (by decide) (by simp)];rfl]
  have t7:=zae hq2 (.lst (fs.map V.int))
  refine⟨q2,rfl,⟨_,SqL.of zac⟩,?_⟩
  refine zaO (zaV (SqL.of zac)) ((fs.map λz=>-z).map D.int) (by simp) (zag (by simp;omega)) (λi x dd H7 R hi hd' s7 hx' hR=>?_) (λv H7 s7 n7=>?_)
  ·obtain⟨z,rfl,rfl⟩:=zf2 hx' hd'
   walk_at "gs"
   exact hR _ _ (Same.refl _) New.int
  obtain⟨na',rfl,na0',hna'⟩:=New.ints_iff.mp n7
  walk_at "gs"
  refine zbk (s7 _ _ (t7 _ _ zac)) hna' (zag (by simp;omega)) λq3 hq3=>?_
  rw[show ([V.int (-c - 1)]++(fs.map λz=>-z).map V.int)=(zcN (c::fs)).map V.int by rw[←zgG lfs];rfl]
  have t8:=zae hq3 (.lst ((zcN (c::fs)).map V.int))
  walk_at "gs"
  refine⟨zag (by simp),λmo' hmo'=>?_⟩
  have t9:=zae hmo' (.lst [V.ref q3])
  have s59:=t6.trans (t7.trans (s7.trans (t8.trans t9)))
  have s39:=s35.trans s59
  walk_at "gs"
  with_reducible refine zaM (λQ2 q2=>?_) ?_
  ·walk_at "gs"
   refine zax (SqT.of (s39 _ _ hT2)) zar ?_
   walk_at "gs"
   rw[(zcf k10)]
   exact q2
  with_reducible refine zaM (λQ2 q2=>?_) ?_
  ·walk_at "gs"
   refine zax (SqT.of (s39 _ _ hT2)) zar ?_
   walk_at "gs"
   rw[(zcf k14)]
   exact q2
  walk_at "gs"
  exact tail _ _ ⟨ca,ea,mo',none,none,_,_,[zcN (c::fs)],rfl,s39,hC.same s59,by rw[zlm];exact gT.1,hE3.same s39,zaE _,znT,Ls.ones zac (t9 _ _ zac),by simp,λz hz=>by
   rw[zms.mp hz,←zgG lfs];simp[lfs],by rw[ze3 gA.2];rfl⟩
 | hold l=>
  obtain⟨t',xs,et,hT2,px⟩:=za6 rx3
  cases et
  obtain⟨x0,r,rfl,e0,px⟩:=zam px
  obtain⟨x1,r,rfl,e1,px⟩:=zam px
  cases zbn px;cases zbw e0
  obtain⟨b1,rfl,hb1⟩:=zb2 e1
  have l9:l.length=9:=ok
  with_reducible refine zaM (λQ2 q2=>?_) ?_
  ·walk_at "gs"
   refine zax (SqT.of hT2) zar ?_
   walk_at "gs"
   rw[k7]
   exact q2
  with_reducible refine zaM (λQ2 q2=>?_) ?_
  ·walk_at "gs"
   refine zax (SqT.of hT2) zar ?_
   walk_at "gs"
   rw[k8]
   exact q2
  with_reducible refine zaM (λQ2 q2=>?_) ?_
  ·walk_at "gs"
   refine zax (SqT.of hT2) zar ?_
   walk_at "gs"
   rw[k9]
   exact q2
  with_reducible refine zaM (λQ2 q2=>?_) ?_
  ·walk_at "gs"
   refine zax (SqT.of hT2) zar ?_
   walk_at "gs"
   rw[k10]
   exact q2
  with_reducible refine zfr (λQ2 q2=>?_) ?_
  ·walk_at "gs"
   refine zax (SqT.of hT2) zar ?_
   walk_at "gs"
   rw[decide_eq_true (rfl:("hold" : Str) ="hold")]
   exact q2
  walk_at "q"
  walk_at "q"
  walk_at "gs"
  refine zax (SqT.of hT2) (v:=.ref b1) (zap (j:=1) rfl) ?_
  walk_at "gs"
  refine⟨zag (by simp),λT hT=>?_⟩
  have t1:=zae hT (.tup [V.ref b1,.ref na])
  walk_at "gs"
  refine⟨zag (by simp),λfr' hfr'=>?_⟩
  have t2:=zae hfr' (.lst [V.ref T])
  walk_at "gs"
  refine zax (SqT.of (t2 _ _ (t1 _ _ hT2))) (v:=.ref b1) (zap (j:=1) rfl) ?_
  walk_at "gs"
  refine⟨zag (by simp),λmo' hmo'=>?_⟩
  have t3:=zae hmo' (.lst [V.ref b1])
  have s34:=t1.trans (t2.trans t3)
  walk_at "gs"
  with_reducible refine zaM (λQ2 q2=>?_) ?_
  ·walk_at "gs"
   refine zax (SqT.of (s34 _ _ hT2)) zar ?_
   walk_at "gs"
   rw[(zcf k15)]
   exact q2
  walk_at "gs"
  exact tail _ _ ⟨fr',ea,mo',none,none,[(l,N)],_,[l],rfl,s34,⟨[.ref T],t3 _ _ zac,R2.cons ⟨T,b1,na,rfl,t3 _ _ (t2 _ _ zac),s34 _ _ hb1,hN3.same s34⟩ R2.nil⟩,by simp,hE3.same s34,zaE _,znT,Ls.ones zac (s34 _ _ hb1),by simp,λz hz=>by
   rw[zms.mp hz];exact l9,by rw[ze3 gA.2];rfl⟩
 | call m g0 g1 t0 t1=>
  obtain⟨t',xs,et,hT2,px⟩:=za6 rx3
  cases et
  obtain⟨x0,r,rfl,e0,px⟩:=zam px
  obtain⟨x1,r,rfl,e1,px⟩:=zam px
  obtain⟨x2,r,rfl,e2,px⟩:=zam px
  obtain⟨x3,r,rfl,e3,px⟩:=zam px
  cases zbn px;cases zbw e0
  cases za9 e1
  obtain⟨b2,rfl,hb2⟩:=zdO e2
  obtain⟨b3,rfl,hb3⟩:=zdO e3
  obtain⟨⟨g00,g10⟩,⟨t00,t08⟩,t10,t18⟩:=ok
  obtain⟨To,oa1,oa2,hv,hTo,hO1,hO2,lo1,lo2,go1,go2⟩:=hcl3
  with_reducible refine zaM (λQ2 q2=>?_) ?_
  ·walk_at "gs"
   refine zax (SqT.of hT2) zar ?_
   walk_at "gs"
   rw[k11]
   exact q2
  with_reducible refine zaM (λQ2 q2=>?_) ?_
  ·walk_at "gs"
   refine zax (SqT.of hT2) zar ?_
   walk_at "gs"
   rw[k12]
   exact q2
  with_reducible refine zaM (λQ2 q2=>?_) ?_
  ·walk_at "gs"
   refine zax (SqT.of hT2) zar ?_
   walk_at "gs"
   rw[k13]
   exact q2
  with_reducible refine zaM (λQ2 q2=>?_) ?_
  ·walk_at "gs"
   refine zax (SqT.of hT2) zar ?_
   walk_at "gs"
   rw[k14]
   exact q2
  with_reducible refine zaM (λQ2 q2=>?_) ?_
  ·walk_at "gs"
   refine zax (SqT.of hT2) zar ?_
   walk_at "gs"
   rw[k15]
   exact q2
  with_reducible refine zfr (λQ2 q2=>?_) ?_
  ·walk_at "gs"
   refine zax (SqT.of hT2) zar ?_
   walk_at "gs"
   rw[decide_eq_true (rfl:("call" : Str) ="call")]
   exact q2
  walk_at "q"
  walk_at "q"
  walk_at "gs"
  refine zax (SqT.of hT2) (v:=.ref b2) (zap (j:=2) rfl) ?_
  walk_at "gs"
  refine zax (SqT.of hb2) (v:=.int g0) zar ?_
  walk_at "gs"
  refine zcH g00 λv H4 s4 n4=>?_
  obtain⟨c1,rfl,c10,hc1⟩:=New.ints_iff.mp n4
  walk_at "gs"
  refine⟨zag (by simp),λT1 hT1=>?_⟩
  have w1:=zae hT1 (.tup [V.int 4,.ref c1])
  have s34:=s4.trans w1
  walk_at "gs"
  refine zax (SqT.of (s34 _ _ hT2)) (v:=.ref b2) (zap (j:=2) rfl) ?_
  walk_at "gs"
  refine zax (SqT.of (s34 _ _ hb2)) (v:=.int g1) (zap (j:=1) rfl) ?_
  walk_at "gs"
  refine zcH g10 λv H5 s5 n5=>?_
  obtain⟨c2,rfl,c20,hc2⟩:=New.ints_iff.mp n5
  walk_at "gs"
  refine⟨zag (by simp),λT2 hT2'=>?_⟩
  have w2:=zae hT2' (.tup [V.int 5,.ref c2])
  walk_at "gs"
  refine⟨zag (by simp),λpl hpl=>?_⟩
  have w3:=zae hpl (.lst [V.ref T1,.ref T2])
  have s5':=s5.trans (w2.trans w3)
  walk_at "gs"
  refine zh7 zac (s5' _ _ zac) (s5' _ _ (w1 _ _ hc1)) (w3 _ _ zac) (w3 _ _ (w2 _ _ hc2)) (zak _) (zak _) (by decide) (by decide) (by decide) (by decide) λup H6 s6 up0 hU=>?_
  have s36:=s34.trans (s5'.trans s6)
  walk_at "gs"
  walk_at "q"
  walk_at "gs"
  refine zax (SqT.of (s36 _ _ hT2)) (v:=.ref b3) (zap (j:=3) rfl) ?_
  walk_at "gs"
  refine zax (SqT.of (s36 _ _ hb3)) (v:=.int t0) zar ?_
  walk_at "gs"
  refine⟨zag (by simp),λT3 hT3=>?_⟩
  have w4:=zae hT3 (.tup [V.int t0,.ref nw])
  have s37:=s36.trans w4
  walk_at "gs"
  refine zax (SqT.of (s37 _ _ hT2)) (v:=.ref b3) (zap (j:=3) rfl) ?_
  walk_at "gs"
  refine zax (SqT.of (s37 _ _ hb3)) (v:=.int t1) (zap (j:=1) rfl) ?_
  walk_at "gs"
  refine zcH (by decide) λv H8 s8 n8=>?_
  obtain⟨c3,rfl,c30,hc3⟩:=New.ints_iff.mp n8
  walk_at "gs"
  refine⟨zag (by simp),λT4 hT4=>?_⟩
  have w5:=zae hT4 (.tup [V.int t1,.ref c3])
  walk_at "gs"
  refine⟨zag (by simp),λpl2 hpl2=>?_⟩
  have w6:=zae hpl2 (.lst [V.ref T3,.ref T4])
  have s8':=s8.trans (w5.trans w6)
  walk_at "gs"
  refine zh7 zac (s8' _ _ zac) (s8' _ _ (s37 _ _ hnw)) (w6 _ _ zac) (w6 _ _ (w5 _ _ hc3)) (zak _) (zak _) t00 t08 t10 t18 λe' H9 s9 e0' hE9=>?_
  have s69:=w4.trans (s8'.trans s9)
  have s39:=s36.trans s69
  have hU9:=hU.same s69
  have gU:=zk4 (k:=4) (j:=5) (zak g0) (zaQ g0) (zak g1) (zaQ g1)
  walk_at "gs"
  walk_at "q"
  walk_at "gs"
  refine zax (SqT.of (s39 _ _ hT2)) (v:=.int m) (zap (j:=1) rfl) ?_
  walk_at "gs"
  refine⟨oa,.ref To,rfl,by rw[←hv];exact DGet.k (k:=.inl m) (s39 _ _ hoa3),?_⟩
  walk_at "gs"
  refine zax (SqT.of (s39 _ _ hTo)) (v:=.ref oa1) zar ?_
  obtain⟨ovs,hoa1,lov⟩:=(hO1.same s39).len
  refine⟨oa1,rfl,⟨_,SqL.of hoa1⟩,?_⟩
  refine zdP (zaV (SqL.of hoa1)) ((oath m).1.map λx=>(zaG x (zaC (ch2 4 (zaq g0) 5 (zaq g1))),N)) (by rw[zlm];omega) (zag (by omega)) (λg hg'=>?_) (λi x dd Ha R hi hd' sa hx' hR=>?_) (λca Ha sa ca0 hC=>?_)
  ·obtain⟨x,hx,rfl⟩:=zmm.mp hg'
   exact⟨za8 λl hl=>(gU l hl).1,gN.2⟩
  ·obtain⟨xa,l,rfl,hl,hxa⟩:=((hO1.same s39).same sa).item (sa _ _ hoa1) hx'
   rw[zgm,hl] at hd'
   cases hd'
   obtain⟨c,fs,rfl,lfs⟩:=zkd (go1 l (zmg hl))
   walk_at "gs"
   refine⟨xa,up,na,c,fs,_,rfl,SqL.of hxa,(hU9.same sa).rep,lfs,zaE _,λl hl=>(gU l hl).1,zbK λl hl=>(gU l hl).2,λT ta H7 s7 hT7 hta=>?_⟩
   exact hR T ta na H7 s7 (.inl (by rw[s39 _ _ hna3];exact λz=>by cases z)) hT7 hta (((hN3.same s39).same sa).same s7)
  have s3a:=s39.trans sa
  walk_at "gs"
  refine zax (SqT.of (s3a _ _ hT2)) (v:=.int m) (zap (j:=1) rfl) ?_
  walk_at "gs"
  refine⟨oa,.ref To,rfl,by rw[←hv];exact DGet.k (k:=.inl m) (s3a _ _ hoa3),?_⟩
  walk_at "gs"
  refine zax (SqT.of (s3a _ _ hTo)) (v:=.ref oa2) (zap (j:=1) rfl) ?_
  obtain⟨ovs2,hoa2,lov2⟩:=(hO2.same s3a).len
  refine⟨oa2,rfl,⟨_,SqL.of hoa2⟩,?_⟩
  refine zaO (zaV (SqL.of hoa2)) (((oath m).2.map λx=>zaG x (zaC (ch2 4 (zaq g0) 5 (zaq g1)))).map nums) (by rw[zlm,zlm];omega) (zag (by omega)) (λi x dd Hb R hi hd' sb hx' hR=>?_) (λv Hb sb nb=>?_)
  ·obtain⟨xa,l,rfl,hl,hxa⟩:=((hO2.same s3a).same sb).item (sb _ _ hoa2) hx'
   rw[zgm,zgm,hl] at hd'
   cases hd'
   obtain⟨c,fs,rfl,lfs⟩:=zkd (go2 l (zmg hl))
   walk_at "gs"
   refine⟨xa,up,c,fs,_,rfl,SqL.of hxa,((hU9.same sa).same sb).rep,lfs,zaE _,λl hl=>(gU l hl).1,zbK λl hl=>(gU l hl).2,λv H7 s7 n7=>?_⟩
   exact hR _ _ s7 n7
  obtain⟨mo',rfl,_,hMo'⟩:=nb.ls
  have s3b:=s3a.trans sb
  walk_at "gs"
  exact tail _ _ ⟨ca,e',mo',none,_,_,_,_,rfl,s3b,hC.same sb,by rw[zlm];exact lo1,hE9.same (sa.trans sb),zaE _,zk4 (zak 6) (zaQ 6) (zak 7) (zaQ 7),hMo',by rw[zlm];exact lo2,λz hz=>by
   obtain⟨x,_,rfl⟩:=zmm.mp hz
   exact za8 λl hl=>(gU l hl).1,rfl⟩
theorem zhB:zc7 [(0,zaq 4),(1,zaq 5),(2,kL 0),(3,kL 0)]=zaC ch4:=by decide
theorem zk5:∀ x∈zaC ch4,x.length=9∧Sm x:=λz hz=>⟨zaN (P:=λl=>l.length=9) (λi=>zak i) (zfX (zak 4) (zak 5) (zaX 0)) z hz,zaN (λi=>zaQ i) (zfX (zaQ 4) (zaQ 5) (sm_k ⟨by decide,by decide⟩)) z hz⟩
def ze4 (K:Fg):Sp:=λvs H Q _=>∃ (v:V) (oa:Addr) (needs leaves:List (List Int)) (deeds:List Dd) (notes:List (List (List Int))) (kvs:List (Key × V)) (oath:Oath),vs=[v,.ref oa]∧zdl H v needs leaves deeds notes∧Good needs leaves deeds.length notes∧(∀ d∈deeds,lOk deeds.length d)∧H oa=some (.dK kvs)∧(∀ d∈deeds,zfw H kvs oath d)∧(zcc needs leaves deeds notes oath).length≤1000∧
 ∀ a H',Same H H'→zaZ H' a (zcc needs leaves deeds notes oath)→Q (.ref a) H'
theorem zhC {f:Addr}{fd:FuncData}(B:Bl K mg) {C:Nat→Addr}(Z:Zt K mg C) (G_l_eight:Fn P w K mg base "_law_eight" ["changes"] 2 (zbY K)) (G_l_alone:Fn P w K mg base "_law_alone" ["line","eight","notes"] 2 (zed K)) (G_l_due_at:Fn P w K mg base "_law_due_at" ["parts","place"] 3 (zdF K)) (G_l_deed_duties:Fn P w K mg base "_law_deed_duties" ["parts","place","others"] 4 (zcO K)) (G_l_bare:Fn P w K mg base "_law_bare" ["i"] 1 (zcy K)) (F:Fun K "_law_duties" "_law_duties" s_l_duties f fd) (m:mg "_law_duties"=some (.ref f)):Fn P w K mg base "_law_duties" ["parts","others"] 5 (ze4 K):=by
 refine Fn.of (k:=4) F zbV m (λ_ _ _ _ _ _ us hl=>match us,hl with | [_,_],_=>rfl) (λvs H Q E h=>?_) (λcdv A outer s H vs Q E hr h=>?_)
 ·first
  | (obtain⟨_,_,_,_,_,_,_,_,rfl,_⟩:=h;rfl)
 obtain⟨v,oa,needs,leaves,deeds,notes,kvs,oath,rfl,hP,hg,hok,hoa,hcl,hlen,q⟩:=h
 refine⟨_,(zah (zaB (i:=2) zbV.nd rfl (Or.inl rfl) (zau zbi (zaH (zai zab zaa)) zab))
   (zah (zaB (i:=3) zbV.nd rfl (Or.inr rfl) (zao G_l_eight hr rfl (zbh (zaH (zb7 (zbg (zai zab (zaz (zao G_l_bare hr rfl (zai zab zaa)) zaa))) (zb7 (zbg (zai zab (zaz (zao G_l_bare hr rfl (zai zab zaa)) zaa))) (zb7 (zbg (zai zab (zad (pv 2) zaa))) (zb7 (zbg (zai zab (zad (pv 2) zaa))) zaa))))) zaa)))
   (zah (zbb (i:=4) zbV.nd rfl rfl rfl (CompOk.m (sc0:=zaf s_l_duties) (N:=["parts","others","zero","eight","found","place"]) (N':=["parts","others","zero","eight","found","place","line"]) (ms:=[false,false,false,false,false,false,true])) (za3 K (zao G_l_due_at hr rfl (zad (pv 0) (zai zab zaa)))) (λ_ _ _ _ _=>(zas (i:=6) (ndS (N:=["parts","others","zero","eight","found","place","line"])) rfl (Or.inl rfl))) (λ_ _ _ _ _=>zaJ) (λ_ _ _ _ _=>(zao G_l_alone hr rfl (zad (pv 6) (zad (pv 3) (zaT (zav (k_ix K) (pv 0) zab (λ_ _=>rfl)) zaa))))))
   (zah (zcK PassesOwn.never rfl (zbd rfl B.range (zaz (zaK (zep K) rfl B.len L2.boot_len (zaT (zav (k_ix K) (pv 0) zab (λ_ _=>rfl)) zaa)) zaa)) (zas (i:=5) zbV.nd rfl (Or.inl rfl)) (zal (zaB (i:=4) zbV.nd rfl (Or.inl rfl) (zau (zaF K) (pv 4) (zao G_l_deed_duties hr rfl (zad (pv 0) (zad (pv 5) (zad (pv 1) zaa))))))))
   (zal (zaA (pv 4))))))),?_⟩
 have hP0:=hP
 obtain⟨pa,y1,y2,a3,a4,dvs,nvs,rfl,hpa,r1,r2,h3,h4,dr,nr⟩:=hP
 walk_at "q"
 walk_at "gs"
 refine⟨zag (by simp),λz1 hz1=>?_⟩
 have t1:=zae hz1 (.lst [V.int 0])
 walk_at "gs"
 refine .inr ⟨z1,9,[.int 0],rfl,rfl,zac,by decide,by decide,by decide,λz2 hz2=>?_⟩
 have t2:=zae hz2 (.lst (List.replicate (9:Int).toNat [V.int 0]).flatten)
 have hz:(upd (upd H z1 (.lst [V.int 0])) z2 (.lst (List.replicate (9:Int).toNat [V.int 0]).flatten)) z2=some (.lst ((kL 0).map V.int)):=zac
 have s0:=t1.trans t2
 generalize (upd (upd H z1 (.lst [V.int 0])) z2 (.lst (List.replicate (9:Int).toNat [V.int 0]).flatten))=H0 at hz s0
 walk_at "gs"
 walk_at "q"
 walk_at "gs"
 refine zcH (by decide) λv H1 s1 n1=>?_
 obtain⟨b1,rfl,b10,hb1⟩:=New.ints_iff.mp n1
 walk_at "gs"
 refine⟨zag (by simp),λT1 hT1=>?_⟩
 have w1:=zae hT1 (.tup [V.int 0,.ref b1])
 walk_at "gs"
 refine zcH (by decide) λv H2 s2 n2=>?_
 obtain⟨b2,rfl,b20,hb2⟩:=New.ints_iff.mp n2
 walk_at "gs"
 refine⟨zag (by simp),λT2 hT2=>?_⟩
 have w2:=zae hT2 (.tup [V.int 1,.ref b2])
 walk_at "gs"
 refine⟨zag (by simp),λT3 hT3=>?_⟩
 have w3:=zae hT3 (.tup [V.int 2,.ref z2])
 walk_at "gs"
 refine⟨zag (by simp),λT4 hT4=>?_⟩
 have w4:=zae hT4 (.tup [V.int 3,.ref z2])
 walk_at "gs"
 refine⟨zag (by simp),λpl hpl=>?_⟩
 have w5:=zae hpl (.lst [V.ref T1,.ref T2,.ref T3,.ref T4])
 have w25:=w2.trans (w3.trans (w4.trans w5))
 have w15:=s2.trans w25
 have s05:=s1.trans (w1.trans w15)
 walk_at "gs"
 refine⟨pl,[(0,zaq 4),(1,zaq 5),(2,kL 0),(3,kL 0)],[.ref T1,.ref T2,.ref T3,.ref T4],rfl,zac,rfl,λp hp=>?_,λi p x e1 e2=>?_,λea H3 s3 ea0 hE=>?_⟩
 ·simp at hp
  rcases hp with rfl | rfl | rfl | rfl
  ·exact⟨zak _,by decide,by decide⟩
  ·exact⟨zak _,by decide,by decide⟩
  ·exact⟨zaX _,by decide,by decide⟩
  ·exact⟨zaX _,by decide,by decide⟩
 ·match i,e1,e2 with
  | 0,e1,e2=>simp at e1 e2;subst e1;subst e2;exact⟨T1,b1,rfl,w15 _ _ zac,w15 _ _ (w1 _ _ hb1)⟩
  | 1,e1,e2=>simp at e1 e2;subst e1;subst e2;exact⟨T2,b2,rfl,(w3.trans (w4.trans w5)) _ _ zac,w25 _ _ hb2⟩
  | 2,e1,e2=>simp at e1 e2;subst e1;subst e2;exact⟨T3,z2,rfl,(w4.trans w5) _ _ zac,s05 _ _ hz⟩
  | 3,e1,e2=>simp at e1 e2;subst e1;subst e2;exact⟨T4,z2,rfl,w5 _ _ zac,s05 _ _ hz⟩
  | n+4,e1,e2=>simp at e1
 rw[zhB] at hE
 have s03:=s0.trans (s05.trans s3)
 walk_at "gs"
 walk_at "q"
 walk_at "gs"
 refine⟨_,0,needs,leaves,deeds,notes,rfl,hP0.same s03,by decide,by omega,hg.dn,hg.l,hg.l9,λda H4 s4 hA=>?_⟩
 have gA:=hg.due 0
 have s04:=s03.trans s4
 obtain⟨avs,hda,lav⟩:=hA.len
 refine⟨da,rfl,⟨_,SqL.of hda⟩,?_⟩
 refine zdP (zaV (SqL.of hda)) (zdR needs leaves notes) (by unfold zdR;rw[zlm];omega) (zag (by omega)) (λg hg'=>?_) (λi x dd H5 R hi hd' s5 hx' hR=>?_) (λca H5 s5 ca0 hC=>?_)
 ·obtain⟨x,hx,rfl⟩:=zmm.mp hg'
  exact⟨za8 λl hl=>(zk5 l hl).1,hg.n9⟩
 ·obtain⟨xa,l,rfl,hl,hxa⟩:=(hA.same s5).item (s5 _ _ hda) hx'
  unfold zdR at hd'
  rw[zgm,hl] at hd'
  cases hd'
  obtain⟨c,fs,rfl,lfs⟩:=zkd (gA.2 l (zmg hl))
  have s45:=s04.trans s5
  walk_at "gs"
  refine zbE (SqL.of (s45 _ _ hpa)) (v:=.ref y1) zar ?_
  walk_at "gs"
  refine⟨xa,ea,y1,c,fs,_,rfl,SqL.of hxa,((hE.same s4).same s5).rep,lfs,zaE _,λl hl=>(zk5 l hl).1,zbK λl hl=>(zk5 l hl).2,λT ta H7 s7 hT7 hta=>?_⟩
  refine hR T ta y1 H7 s7 (.inl ?_) hT7 hta (r1.same (s45.trans s7))
  obtain⟨_,e,_⟩:=r1
  rw[s04 _ _ e]
  exact λz=>by cases z
 have s05':=s04.trans s5
 walk_at "gs"
 walk_at "q"
 walk_at "gs"
 refine zbE (SqL.of (s05' _ _ hpa)) (v:=.ref a3) (zap (j:=2) rfl) ?_
 walk_at "gs"
 refine zd5 (.inl (SqL.of (s05' _ _ h3))) ?_
 rw[←dr.1]
 refine zbQ (by omega) (by have:=hg.d;omega) ?_
 refine zfI (λi σ H6=>∃ fa x,i≤deeds.length∧σ=[some (.ref pa),some (.ref oa),some (.ref z2),some (.ref ea),some (.ref fa),x]∧Same H H6∧zaZ H6 fa (zdR needs leaves notes++zb3 leaves notes oath (deeds.take i) 0))
  ⟨ca,none,Nat.zero_le _,rfl,s05',by rw[List.take_zero];show zaZ H5 ca (_++[]);rw[List.append_nil];exact hC⟩ ?_ ?_
 ·rintro i σ H6 hi ⟨fa,x,him,rfl,s6,hF⟩
  have hi':i<deeds.length:=by have:i<((deeds.length:Int)).toNat:=hi;omega
  have eS:deeds.take (i+1)=deeds.take i++[deeds[i]]:=by rw[List.take_add_one,List.getElem?_eq_getElem hi'];rfl
  have step:zb3 leaves notes oath (deeds.take (i+1)) 0=zb3 leaves notes oath (deeds.take i) 0++zbG (dueL leaves notes i) (dueL leaves notes ((i:Int)+1)) (dueL leaves notes) oath deeds[i]:=by
   rw[eS,zeU]
   congr 1
   show zbG _ _ _ _ _++[]=_
   rw[List.append_nil,List.length_take,Nat.zero_add,Nat.min_eq_left (by omega)]
  have short:(zdR needs leaves notes++zb3 leaves notes oath (deeds.take (i+1)) 0).length≤1000:=by
   refine Nat.le_trans ?_ hlen
   unfold zcc
   have:=zeU leaves notes oath (deeds.take (i+1)) (deeds.drop (i+1)) 0
   rw[List.take_append_drop] at this
   rw[this]
   simp only[List.length_append];omega
  walk_at "gs"
  rw[Int.zero_add]
  refine⟨_,oa,i,needs,leaves,deeds,notes,kvs,oath,deeds[i],rfl,hP0.same s6,hg,List.getElem?_eq_getElem hi',hok _ (List.getElem_mem hi'),s6 _ _ hoa,(hcl _ (List.getElem_mem hi')).same s6,λb H7 s7 hB=>?_⟩
  obtain⟨fvs,hfa,hF2⟩:=id hF
  obtain⟨bvs,hb,hB2⟩:=id hB
  have l1:=hF2.1
  have l2:=hB2.1
  rw[step,←List.append_assoc,List.length_append,l1,l2] at short
  walk_at "gs"
  refine zbk (s7 _ _ hfa) hb (zag (by omega)) λp hp=>?_
  walk_at "gs"
  refine⟨p,_,hi',rfl,(s6.trans s7).trans (zae hp _),?_⟩
  rw[step,←List.append_assoc]
  exact zaZ.cat (hF.same s7) hB (s7 _ _ hfa) hb hp
 ·rintro σ H6 ⟨fa,x,him,rfl,s6,hF⟩
  walk_at "gs"
  refine q fa _ s6 ?_
  rw[show ((deeds.length:Int)).toNat=deeds.length by omega,List.take_of_length_le (Nat.le_refl _)] at hF
  exact hF
def zee (K:Fg):Sp:=λvs H Q _=>∃ i:Int,vs=[.int i]∧Q (.bl true) H
theorem zmq {H:Hp}{Q:VK}{E:XK}{i:Int}(q:Q (.bl true) H):zee K [.int i] H Q E:=⟨i,rfl,q⟩
theorem ziU {f:Addr}{fd:FuncData}(B:Bl K mg) {C:Nat→Addr}(Z:Zt K mg C)  (F:Fun K "_law_whole" "_law_whole" s_l_whole f fd) (m:mg "_law_whole"=some (.ref f)):Fn P w K mg base "_law_whole" ["found"] 1 (zee K):=by
 refine Fn.of (k:=0) F ziI m (λ_ _ _ _ _ _ us hl=>match us,hl with | [_],_=>rfl) (λvs H Q E h=>?_) (λcdv A outer s H vs Q E hr h=>?_)
 ·first
  | (obtain⟨_,rfl,_⟩:=h;rfl)
 obtain⟨i,rfl,q⟩:=h
 refine⟨_,(zal (zaA (zhG (zaK (zhk K) rfl B.isinstance L2.za0 (zad (pv 0) (zad (zdu (v:=.ty "int") rfl B.int L2.zhT rfl) zaa))) (zi2 (zmC (zaK (zhk K) rfl B.isinstance L2.za0 (zad (pv 0) (zad (zdu (v:=.ty "bool") rfl B.bool L2.zjI rfl) zaa)))))))),?_⟩
 walk_at "go"
 refine ze7 (.int i) zdc ?_
 walk_at "go"
 refine ze7 (b:=false) (.int i) zgu ?_
 exact⟨false,rfl,q⟩
def zc8 (K:Fg):Sp:=λvs H Q _=>∃ (a:Addr) (ns:List Int),vs=[.ref a]∧H a=some (.lst (ns.map V.int))∧ns.length=9∧∀ H',Same H H'→Q (.bl true) H'
theorem zh8 {H:Hp}{Q:VK}{E:XK}{a:Addr}{ns:List Int}(h:H a=some (.lst (ns.map V.int))) (l:ns.length=9) (q:∀ H',Same H H'→Q (.bl true) H'):zc8 K [.ref a] H Q E:=⟨a,ns,rfl,h,l,q⟩
theorem zg0 {f:Addr}{fd:FuncData}(B:Bl K mg) {C:Nat→Addr}(Z:Zt K mg C) (G_l_whole:Fn P w K mg base "_law_whole" ["found"] 1 (zee K)) (F:Fun K "_law_is_line" "_law_is_line" s_l_is_line f fd) (m:mg "_law_is_line"=some (.ref f)):Fn P w K mg base "_law_is_line" ["found"] 2 (zc8 K):=by
 refine Fn.of (k:=1) F zgS m (λ_ _ _ _ _ _ us hl=>match us,hl with | [_],_=>rfl) (λvs H Q E h=>?_) (λcdv A outer s H vs Q E hr h=>?_)
 ·first
  | (obtain⟨_,_,rfl,_⟩:=h;rfl)
 obtain⟨a,ns,rfl,hA,l9,q⟩:=h
 refine⟨_,(zal (zaA (zhG (zaK (zhk K) rfl B.isinstance L2.za0 (zad (pv 0) (zad (zdu (v:=.ty "list") rfl B.list L2.zca rfl) zaa))) (zhG (zg8 (k_eq K hr) (zaK (zep K) rfl B.len L2.boot_len (zad (pv 0) zaa)) zab (za1 _)) (zi2 (zaK (zny K rfl) rfl B.all L2.zhU (zfK (zbf rfl (CompOk.m (sc0:=zaf s_l_is_line) (N:=["found"]) (N':=["found","x"]) (ms:=[false,true])) (za3 K (pv 0)) (λ_ _ _ _ _=>(zas (i:=1) (ndS (N:=["found","x"])) rfl (Or.inl rfl))) (λ_ _ _ _ _=>zaJ) (λ_ _ _ _ _=>(zao G_l_whole hr rfl (zad (pv 1) zaa)))) zaa))))))),?_⟩
 walk_at "go"
 refine ze7 (.lst hA) zdc ?_
 walk_at "go"
 refine zd5 (.inl (SqL.of hA)) ?_
 walk_at "go"
 rw[zlm,l9,show decide (((9:Nat):Int)=9)=true from by decide]
 walk_at "go"
 refine⟨a,rfl,⟨_,SqL.of hA⟩,?_⟩
 refine zaO (zaV (SqL.of hA)) ((List.replicate 9 true).map D.bl) (by simp[l9]) (by rw[zlm,l9];decide) (λi x d H1 R hi hd s1 hx hR=>?_) (λv H1 s1 n1=>?_)
 ·rw[zgm] at hx hd
  obtain⟨y,hy,rfl⟩:=zme.mp hx
  obtain⟨b,hb,rfl⟩:=zme.mp hd
  have hb':b=true:=(List.mem_replicate.mp (zmg hb)).2
  subst hb'
  walk_at "go"
  refine zmq ?_
  exact hR _ _ (Same.refl _) New.bl
 obtain⟨la,rfl,la0,la1⟩:=New.bls n1
 walk_at "go"
 refine zno (SqL.of la1) ?_
 exact q _ s1
def zfx (K:Fg):Sp:=λvs H Q _=>∃ (a b:Addr) (gs:List Du),vs=[.ref a,.ref b]∧zaZ H a gs∧zaZ H b gs∧gs.length≤1000∧(∀ g∈gs,g.1.length=9∧g.2.length≤1000∧∀ l∈g.2,l.length=9)∧∀ H',Same H H'→Q (.bl true) H'
theorem ziV {f:Addr}{fd:FuncData}(B:Bl K mg) {C:Nat→Addr}(Z:Zt K mg C) (G_l_is_line:Fn P w K mg base "_law_is_line" ["found"] 2 (zc8 K)) (F:Fun K "_law_alike" "_law_alike" s_l_alike f fd) (m:mg "_law_alike"=some (.ref f)):Fn P w K mg base "_law_alike" ["found","due"] 3 (zfx K):=by
 refine Fn.of (k:=2) F zd8 m (λ_ _ _ _ _ _ us hl=>match us,hl with | [_,_],_=>rfl) (λvs H Q E h=>?_) (λcdv A outer s H vs Q E hr h=>?_)
 ·first
  | (obtain⟨_,_,_,rfl,_⟩:=h;rfl)
 obtain⟨a,b,gs,rfl,hA,hB,hl,h9,q⟩:=h
 refine⟨_,(zah (zbB (PW.pt (zia (zef (zdi (zaK (zhk K) rfl B.isinstance L2.za0 (zad (pv 0) (zad (zdu (v:=.ty "list") rfl B.list L2.zca rfl) zaa))))) (zf5 (zaR (k_ne K hr) (zaK (zep K) rfl B.len L2.boot_len (zad (pv 0) zaa)) (zaK (zep K) rfl B.len L2.boot_len (zad (pv 1) zaa)) (za1 _))))) (zal (zaA zfz)) zaP)
   (zah (zcK PassesOwn.never rfl (zgt K rfl B.zip (zad (pv 0) (zad (pv 1) zaa))) (zeL K (n:=2) rfl (zbs (zas (i:=2) zd8.nd rfl (Or.inl rfl)) (zbs (zas (i:=3) zd8.nd rfl (Or.inl rfl)) zdv))) (zah (zbB (PW.pt (zia (zef (zdi (zaK (zhk K) rfl B.isinstance L2.za0 (zad (pv 2) (zad (zdu (v:=.ty "tuple") rfl B.tuple L2.zfm rfl) zaa))))) (zia (zaR (k_ne K hr) (zaK (zep K) rfl B.len L2.boot_len (zad (pv 2) zaa)) zab (za1 _)) (zf5 (zef (zdi (zaK (zhk K) rfl B.isinstance L2.za0 (zaT (zav (k_ix K) (pv 2) zab (λ_ _=>rfl)) (zad (zdu (v:=.ty "list") rfl B.list L2.zca rfl) zaa))))))))) (zal (zaA zfz)) zaP)
   (zah (zbB (PW.pt (zia (zef (zdi (zao G_l_is_line hr rfl (zaT (zav (k_ix K) (pv 2) zab (λ_ _=>rfl)) zaa)))) (zf5 (zef (zdi (zaK (zny K rfl) rfl B.all L2.zhU (zfK (zbf rfl (CompOk.m (sc0:=zaf s_l_alike) (N:=["found","due","mine","other"]) (N':=["found","due","mine","other","line"]) (ms:=[false,false,false,false,true])) (za3 K (zav (k_ix K) (pv 2) zab (λ_ _=>rfl))) (λ_ _ _ _ _=>(zas (i:=4) (ndS (N:=["found","due","mine","other","line"])) rfl (Or.inl rfl))) (λ_ _ _ _ _=>zaJ) (λ_ _ _ _ _=>(zao G_l_is_line hr rfl (zad (pv 4) zaa)))) zaa))))))) (zal (zaA zfz)) zaP)
   (zal (zbB (PW.pt (zia (zaR (k_ne K hr) (zav (k_ix K) (pv 2) zab (λ_ _=>rfl)) (zav (k_ix K) (pv 3) zab (λ_ _=>rfl)) (za1 _)) (zf5 (zaR (k_ne K hr) (zav (k_ix K) (pv 2) zab (λ_ _=>rfl)) (zav (k_ix K) (pv 3) zab (λ_ _=>rfl)) (za1 _))))) (zal (zaA zfz)) zaP)))))
   (zal (zaA zfz)))),?_⟩
 obtain⟨xs,hA,rA⟩:=hA
 obtain⟨ys,hB,rB⟩:=hB
 have l1:=rA.1
 have l2:=rB.1
 with_reducible refine zaM (λQ2 q2=>?_) ?_
 ·walk_at "gs"
  refine ze7 (.lst hA) zdc ?_
  walk_at "gs"
  refine zd5 (.inl (SqL.of hA)) ?_
  walk_at "gs"
  refine zd5 (.inl (SqL.of hB)) ?_
  walk_at "gs"
  rw[decide_eq_true (show ((xs.length:Nat):Int)=((ys.length:Nat):Int) by omega)]
  exact q2
 walk_at "q"
 walk_at "gs"
 refine⟨a,b,rfl,⟨_,SqL.of hA⟩,⟨_,SqL.of hB⟩,?_⟩
 refine zhi (n:=gs.length) (zdK (SqL.of hA) (SqL.of hB) (by omega)) (λi σ H2=>∃ x y,σ=[some (.ref a),some (.ref b),x,y]∧Same H H2)
  ⟨none,none,rfl,Same.refl _⟩ (λi σ H2 ⟨_,_,_,e⟩=>e) ?_ ?_
 ·rintro i v σ H2 H3 hi ⟨x,y,rfl,s2⟩ s3 ⟨T,x1,y1,rfl,hT,e1,e2⟩
  obtain⟨g9,gl,g99⟩:=h9 gs[i] (List.getElem_mem hi)
  obtain⟨T1,ga,na,rfl,h1,h2,h3⟩:=rA.2 i gs[i] x1 (by simp) e1
  obtain⟨T2,gb,nb,rfl,k1,k2,k3⟩:=rB.2 i gs[i] y1 (by simp) e2
  generalize gs[i]=g at *
  have s03:=s2.trans s3
  refine⟨T,_,rfl,SqT.of hT,rfl,⟨_,_,rfl,?_⟩⟩
  refine⟨_,_,rfl,?_⟩
  refine⟨rfl,?_⟩
  have t1:=s03 _ _ h1
  have t2:=s03 _ _ k1
  have n3:=h3.same s03
  obtain⟨nvs,hna,lnv⟩:=n3.len
  with_reducible refine zaM (λQ2 q2=>?_) ?_
  ·walk_at "gs"
   refine ze7 (.tup t1) zdc ?_
   walk_at "gs"
   refine znI (n:=2) (.inr (SqT.of t1)) rfl ?_
   walk_at "gs"
   rw[decide_eq_true rfl]
   walk_at "gs"
   refine zax (SqT.of t1) (v:=.ref na) (zap (j:=1) rfl) ?_
   walk_at "gs"
   refine ze7 (.lst hna) zdc ?_
   walk_at "gs"
   exact q2
  with_reducible refine zfQ (λQ2 q2=>?_) (λH4 s4=>?_)
  ·walk_at "gs"
   refine zax (SqT.of t1) (v:=.ref ga) zar ?_
   walk_at "gs"
   refine zh8 (s03 _ _ h2) g9 λH4 s4=>?_
   walk_at "gs"
   refine zax (SqT.of (s4 _ _ t1)) (v:=.ref na) (zap (j:=1) rfl) ?_
   refine⟨na,rfl,⟨_,SqL.of (s4 _ _ hna)⟩,?_⟩
   refine zaO (zaV (SqL.of (s4 _ _ hna))) ((List.replicate g.2.length true).map D.bl) (by simp;omega) (zag (by omega)) (λj x d H5 R hj hd s5 hx' hR'=>?_) (λv H5 s5 n5=>?_)
   ·rw[zgm] at hd
    obtain⟨b',hb,rfl⟩:=zme.mp hd
    have hb':b'=true:=(List.mem_replicate.mp (zmg hb)).2
    subst hb'
    obtain⟨xa,l,rfl,hl',hxa⟩:=((n3.same s4).same s5).item (s5 _ _ (s4 _ _ hna)) hx'
    walk_at "gs"
    refine zh8 hxa (g99 l (zmg hl')) λH6 s6=>?_
    exact hR' _ _ s6 New.bl
   obtain⟨la,rfl,la0,la1⟩:=New.bls n5
   walk_at "gs"
   refine zno (SqL.of la1) ?_
   rw[show (List.replicate g.2.length true).all id=true by simp]
   walk_at "gs"
   exact q2 _ (s4.trans s5)
  walk_at "gs"
  refine zax (SqT.of (s4 _ _ t1)) (v:=.ref ga) zar ?_
  walk_at "gs"
  refine zax (SqT.of (s4 _ _ t2)) (v:=.ref gb) zar ?_
  refine zjH (d:=nums g.1) (zbJ.mpr ⟨ga,rfl,SqL.of (s4 _ _ (s03 _ _ h2))⟩) (zbJ.mpr ⟨gb,rfl,SqL.of (s4 _ _ (s03 _ _ k2))⟩) (Nat.le_trans (zeu _) (by decide)) ?_
  walk_at "gs"
  refine zax (SqT.of (s4 _ _ t1)) (v:=.ref na) (zap (j:=1) rfl) ?_
  walk_at "gs"
  refine zax (SqT.of (s4 _ _ t2)) (v:=.ref nb) (zap (j:=1) rfl) ?_
  refine zjH (d:=zaI g.2) (n3.same s4).rep ((k3.same s03).same s4).rep (Nat.le_trans (zjG _) (by decide)) ?_
  walk_at "gs"
  exact⟨_,_,rfl,s03.trans s4⟩
 ·rintro σ H2 ⟨x,y,rfl,s2⟩
  walk_at "gs"
  exact q _ s2
def zcz (n c:Int):List (List Int):=(List.range ((n+c) % 3).toNat).map λ(k:Nat)=>zbS (c+3 * n+(0+(k:Int))) [0,1,2,3,6,7]
def zct (n c:Int):List (List Int):=(List.range ((n+c / 3) % 3).toNat).map λ(k:Nat)=>zbS (c+5 * n+(0+(k:Int))) [0,1,2,3]
def zg1 (K:Fg):Sp:=λvs H Q _=>∃ n c:Int,vs=[.int n,.int c]∧∀ v H',Same H H'→New H H' (.tup [zaI (zcz n c),zaI (zct n c)]) v→Q v H'
theorem zke {f:Addr}{fd:FuncData}(B:Bl K mg) {C:Nat→Addr}(Z:Zt K mg C) (G_l_line_by:Fn P w K mg base "_law_line_by" ["cell","zero"] 3 (zcp K)) (F:Fun K "_law_oath" "_law_oath" s_l_oath f fd) (m:mg "_law_oath"=some (.ref f)):Fn P w K mg base "_law_oath" ["number","cell"] 4 (zg1 K):=by
 refine Fn.of (k:=3) F zeX m (λ_ _ _ _ _ _ us hl=>match us,hl with | [_,_],_=>rfl) (λvs H Q E h=>?_) (λcdv A outer s H vs Q E hr h=>?_)
 ·first
  | (obtain⟨_,_,rfl,_⟩:=h;rfl)
 obtain⟨n,c,rfl,q⟩:=h
 refine⟨_,(zah (zbb (i:=2) zeX.nd rfl rfl rfl (CompOk.m (sc0:=zaf s_l_oath) (N:=["number","cell","needs","leaves"]) (N':=["number","cell","needs","leaves","k"]) (ms:=[false,false,false,false,true])) (zbd rfl B.range (zaU (zau zcQ (zau (zaF K) (pv 0) (pv 1)) zab) zaa)) (λ_ _ _ _ _=>(zas (i:=4) (ndS (N:=["number","cell","needs","leaves","k"])) rfl (Or.inl rfl))) (λ_ _ _ _ _=>zaJ) (λ_ _ _ _ _=>(zao G_l_line_by hr rfl (zaU (zau (zaF K) (zau (zaF K) (pv 1) (zau zbi zab (pv 0))) (pv 4)) (zbh (zaH (zai zab (zai zab (zai zab (zai zab (zai zab (zai zab zaa))))))) zaa)))))
   (zah (zbb (i:=3) zeX.nd rfl rfl rfl (CompOk.m (sc0:=zaf s_l_oath) (N:=["number","cell","needs","leaves"]) (N':=["number","cell","needs","leaves","k"]) (ms:=[false,false,false,false,true])) (zbd rfl B.range (zaU (zau zcQ (zau (zaF K) (pv 0) (zau zdw (pv 1) zab)) zab) zaa)) (λ_ _ _ _ _=>(zas (i:=4) (ndS (N:=["number","cell","needs","leaves","k"])) rfl (Or.inl rfl))) (λ_ _ _ _ _=>zaJ) (λ_ _ _ _ _=>(zao G_l_line_by hr rfl (zaU (zau (zaF K) (zau (zaF K) (pv 1) (zau zbi zab (pv 0))) (pv 4)) (zbh (zaH (zai zab (zai zab (zai zab (zai zab zaa))))) zaa)))))
   (zal (zaA (zbg (zad (pv 2) (zad (pv 3) zaa))))))),?_⟩
 have a1:=Int.emod_nonneg (n+c) (show (3:Int)≠0 by decide)
 have a2:=Int.emod_lt_of_pos (n+c) (show (0:Int)<3 by decide)
 have b1:=Int.emod_nonneg (n+c / 3) (show (3:Int)≠0 by decide)
 have b2:=Int.emod_lt_of_pos (n+c / 3) (show (0:Int)<3 by decide)
 walk_at "q"
 walk_at "gs"
 refine zbQ (by omega) (by omega) ?_
 refine zaO (n:=((n+c) % 3).toNat) zbo ((zcz n c).map nums) (by simp[zcz]) (zag (by omega)) (λi x d H1 R hi hd s1 hx hR=>?_) (λv H1 s1 n1=>?_)
 ·subst hx
  unfold zcz at hd
  rw[List.map_map] at hd
  have hd':=zbR hd
  subst hd'
  walk_at "gs"
  refine⟨zag (by simp),λp hp=>?_⟩
  walk_at "gs"
  refine⟨_,p,[0,1,2,3,6,7],rfl,SqL.of zac,λv H2 s2 n2=>?_⟩
  exact hR _ _ ((zae hp _).trans s2) (n2.back (zae hp _))
 walk_at "gs"
 walk_at "q"
 walk_at "gs"
 refine zbQ (by omega) (by omega) ?_
 refine zaO (n:=((n+c / 3) % 3).toNat) zbo ((zct n c).map nums) (by simp[zct]) (zag (by omega)) (λi x d H2 R hi hd s2 hx hR=>?_) (λv' H2 s2 n2=>?_)
 ·subst hx
  unfold zct at hd
  rw[List.map_map] at hd
  have hd':=zbR hd
  subst hd'
  walk_at "gs"
  refine⟨zag (by simp),λp hp=>?_⟩
  walk_at "gs"
  refine⟨_,p,[0,1,2,3],rfl,SqL.of zac,λv H3 s3 n3=>?_⟩
  exact hR _ _ ((zae hp _).trans s3) (n3.back (zae hp _))
 walk_at "gs"
 refine⟨zag (by simp),λT hT=>?_⟩
 have t1:=zae hT (.tup [v,v'])
 obtain⟨f1,h1,h2,h3⟩:=n1
 obtain⟨f2,g1,g2,g3⟩:=n2
 refine q _ _ ((s1.trans s2).trans t1) (New.tup (fp:=f1++f2) ?_ (List.nodup_append.mpr ⟨h2,g2,λx hx y hy z=>?_⟩) (λb hb=>?_) zac)
 ·have:=zaj.cany (RepF.sq (s2.trans t1).sq _ h1) (zaj.cany (RepF.sq t1.sq _ g1) (zaj.nil (H:=upd H2 T (.tup [v,v']))))
  rw[List.append_nil] at this
  exact this
 ·subst z
  obtain⟨o,ho⟩:=RepF.has _ h1 x hx
  have:=g3 x hy
  rw[ho] at this;cases this
 ·rcases zma.mp hb with z | z
  ·exact h3 b z
  ·exact s1.free (g3 b z)
def zen (K:Fg) (C:Nat→Addr):Sp:=λvs H Q _=>∃ (p ca:Addr) (needs leaves:List (List Int)) (deeds:List Dd) (notes:List (List (List Int))) (kvs:List (Key × V)),vs=[.ref p,.ref ca]∧zdm K (C 0) H p needs leaves deeds notes∧Good needs leaves deeds.length notes∧(∀ d∈deeds,dOk deeds.length d)∧H ca=some (.dK kvs)∧(∀ m∈za7 deeds,m.natAbs<zcX)∧(∃ m∈za7 deeds,valV kvs (.inl m)=none)∧
 ∀ H',Same H H'→Q (.bl true) H'
theorem zg2 {f:Addr}{fd:FuncData}(B:Bl K mg) {C:Nat→Addr}(Z:Zt K mg C) (G_duties:Fnx P w K mg base "duties" ["craft","crafts"] 6 (zdV K C)) (F:Fun K "_law_refused" "_law_refused" s_l_refused f fd) (m:mg "_law_refused"=some (.ref f)):Fn P w K mg base "_law_refused" ["craft","crafts"] 7 (zen K C):=by
 refine Fn.of (k:=6) F zej m (λ_ _ _ _ _ _ us hl=>match us,hl with | [_,_],_=>rfl) (λvs H Q E h=>?_) (λcdv A outer s H vs Q E hr h=>?_)
 ·first
  | (obtain⟨_,_,_,_,_,_,_,rfl,_⟩:=h;rfl)
 obtain⟨p,ca,needs,leaves,deeds,notes,kvs,rfl,hT,hg,hok,hca,hm,hn,q⟩:=h
 refine⟨_,(zah (znF rfl rfl rfl (zkP (zkO (znD G_duties hr rfl (zad (pv 0) (zad (pv 1) zaa))))) (ph_as (i:=2) (tb:=λc a=>tRet (tCB (rIsy K a c) (zdy (tVar 2) (zdy (tC (.ref (C 1))) tNil)))) Z.e_Unmet rfl Z.m_Unmet zej.nd rfl rfl (λ_ _ hd hn=>(zal (zaA (zaK (k_isy hd hn K) rfl B.isinstance L2.za0 (zad (pv 2) (zad (zjJ rfl Z.m_HallError) zaa)))))) znE))
   (zal (zaA zfz))),?_⟩
 walk_at "q"
 refine i_try ?_
 walk_at "gs"
 refine⟨p,ca,needs,leaves,deeds,notes,kvs,λ_=>([],[]),rfl,hT,hg,hok,hca,hm,.inl ⟨hn,λH' s' a=>?_⟩⟩
 refine⟨(C 2),_,rfl,Z.e_Unmet,?_⟩
 rw[if_pos (by simp)]
 show tRet _ _ _ _
 walk_at "gs"
 exact⟨(C 2),(C 1),_,_,rfl,rfl,Z.e_Unmet,Z.e_HallError,by simp,q _ s'⟩
def sp_law (K:Fg):Sp:=λvs H Q _=>∃ (a:Addr) (ns:List Int),vs=[.ref a]∧SqL K H a (ns.map V.int)∧ns.length≤63∧∀ H',Q (.bl true) H'
theorem zh9 {K:Fg}{C:Nat→Addr}{H:Hp}{p dx y1 y2 a3 a4:Addr}{needs leaves:List (List Int)}{deeds:List Dd}{notes:List (List (List Int))}{dvs nvs:List V}{Q:VK}{E:XK}(np:H p=none) (nd:H dx=none) (r1:Ls H y1 needs) (r2:Ls H y2 leaves) (h3:H a3=some (.lst dvs)) (h4:H a4=some (.lst nvs)) (dr:zdD H deeds dvs) (nr:R2 (znR H) notes nvs) (h9:∀ d∈deeds,zjX d) (g:Good needs leaves deeds.length notes)
  (q:∀ H1,Same H H1→zdm K (C 0) H1 p needs leaves deeds notes→Q .non H1):zbW K C [.ref p,.ref y1,.ref y2,.ref a3,.ref a4] (upd (upd H dx (.own p)) p (.ins (C 0) dx [])) Q E:=by
 have sm:Same H (upd (upd H dx (.own p)) p (.ins (C 0) dx [])):=λb o e=>by
  rw[zaw (zaY e np),zaw (zaY e nd)];exact e
 have ld:=dr.1
 have ln:=nr.1
 have e1:=g.d
 have e2:=g.n
 have e3:=g.l
 have e4:=g.dn
 refine⟨p,dx,.ref y1,.ref y2,.ref a3,.ref a4,needs,leaves,deeds.map toD,notes,a3,a4,dvs,nvs,rfl,zac,(r1.same sm).rep,(r2.same sm).rep,rfl,SqL.of (sm _ _ h3),rfl,SqL.of (sm _ _ h4),by omega,by omega,by rw[zlm];omega,by omega,by rw[zlm];exact ld,ln,λi d x q1 q2=>?_,λi ls x q1 q2=>?_,λH1 w1 w2 w3 w4 keep hp nw=>?_⟩
 ·rw[zgm] at q1
  obtain⟨d',hd',rfl⟩:=zme.mp q1
  exact (dr.2 i d' x hd' q2).sq sm.sq
 ·obtain⟨b,rfl,hL⟩:=nr.2 i ls x q1 q2
  exact⟨by have:=(g.o ls (zmg q1)).1;omega,(hL.same sm).rep⟩
 ·have s1:Same H H1:=λb o e=>keep b o (sm _ _ e) (zaY e np)
  refine q H1 s1 ⟨zbM.of hp nw,?_⟩
  obtain⟨fq,k1,_⟩:=nw
  obtain⟨x1,x2,x3,x4,f1,f2,f3,f4,e,g1,g2,g3,g4⟩:=zlk k1
  cases e
  obtain⟨b3,dvs',r3,rfl,h3',z3⟩:=RepF.lst_out g3
  refine⟨dx,w1,w2,b3,w4,dvs',hp,h3',by simpa using z3.length,λi d x q1 q2=>?_⟩
  obtain⟨f,hf⟩:=zaj.item z3 i (toD d) x (by rw[zgm,q1];rfl) q2
  exact zjL (zh2 (h9 d (zmg q1))) hf
def OthV (H:Hp) (c1:Int) (m:Int) (v:V):Prop:=∃ T a b,v=.ref T∧H T=some (.tup [.ref a,.ref b])∧Ls H a (zcz m c1)∧Ls H b (zct m c1)
theorem OthV.nod {H H':Hp}{c1 m:Int}{v:V}(e:NoD H H') (h:OthV H c1 m v):OthV H' c1 m v:=by
 obtain⟨T,a,b,rfl,h1,h2,h3⟩:=h
 exact⟨T,a,b,rfl,e _ _ h1 (λ_ z=>by cases z),h2.nod e,h3.nod e⟩
def CrV (K:Fg) (C:Nat→Addr) (H:Hp) (c1:Int) (m:Int) (v:V):Prop:=∃ o ds ns,v=.ref o∧zbM K (C 0) H o (zcz m c1) (zct m c1) ds ns∧Good (zcz m c1) (zct m c1) ds.length ns
theorem CrV.nod {K:Fg}{C:Nat→Addr}{H H':Hp}{c1 m:Int}{v:V}(e:NoD H H') (h:CrV K C H c1 m v):CrV K C H' c1 m v:=by
 obtain⟨o,ds,ns,rfl,h1,h2⟩:=h
 exact⟨o,ds,ns,rfl,h1.nod e,h2⟩
theorem zd0 (n c:Int):(zcz n c).length≤2∧(zct n c).length≤2:=by
 have a1:=Int.emod_nonneg (n+c) (show (3:Int)≠0 by decide)
 have a2:=Int.emod_lt_of_pos (n+c) (show (0:Int)<3 by decide)
 have b1:=Int.emod_nonneg (n+c / 3) (show (3:Int)≠0 by decide)
 have b2:=Int.emod_lt_of_pos (n+c / 3) (show (0:Int)<3 by decide)
 unfold zcz zct
 simp only[zlm,List.length_range]
 omega
theorem ze5 (n c:Int):(∀ l∈zcz n c,l.length=9)∧∀ l∈zct n c,l.length=9:=⟨λl hl=>by
 obtain⟨k,_,rfl⟩:=zmm.mp hl
 exact zaW _ _,λl hl=>by
 obtain⟨k,_,rfl⟩:=zmm.mp hl
 exact zaW _ _⟩
theorem zg3 (n c:Int):Good (zcz n c) (zct n c) 1 [[]] where
 dn:=rfl
 d:=by decide
 n:=by have:=(zd0 n c).1;omega
 l:=by have:=(zd0 n c).2;omega
 n9:=(ze5 n c).1
 l9:=(ze5 n c).2
 o:=λls h=>by
  rw[zms.mp h]
  exact⟨by decide,λl hl=>by simp at hl⟩
theorem zkf (c:Int) (zero:List Int):Sm (zbS c zero):=λn hn=>by
 have:=zjU n hn
 constructor <;> omega
theorem zkg {c count:Int}{n:Nat}(hc:0≤count) (hn:count=(n:Int)):lOk n (zfN c count):=by
 have m1:=zbl (c:=c) (k:=3) (m:=4) (by decide)
 have m2:=zdM (c:=c) (k:=3) (m:=4) (by decide)
 unfold zfN
 split
 ·exact⟨⟨m1,by omega⟩,zaW _ _,zkf _ _⟩
 split
 ·have:=zmn c
  exact⟨⟨m1,by omega⟩,zaW _ _,by omega,by omega⟩
 split
 ·exact⟨m1,by omega⟩
 split
 ·have k1:=zbl (c:=c) (k:=9) (m:=count+1) (by omega)
  have k2:=zdM (c:=c) (k:=9) (m:=count+1) (by omega)
  exact⟨zaW _ _,k1,by omega⟩
 split
 ·exact zaW _ _
 ·have k1:=zbl (c:=c) (k:=10) (m:=4) (by decide)
  have k2:=zbl (c:=c) (k:=11) (m:=4) (by decide)
  exact⟨⟨k1,k2⟩,⟨m1,by omega⟩,by omega,by omega⟩
theorem zkh {n:Nat}{d:Dd}(h:lOk n d):dOk n d:=by
 cases d with
 | set hd l=>exact h.2
 | part hd l b=>exact h.2
 | draw hd lo hi=>trivial
 | turn l p=>exact h
 | hold l=>exact h
 | call m g0 g1 t0 t1=>trivial
theorem zg4 {c count m:Int}(h:zbD (zfN c count)=some m):0≤m∧m<100:=by
 have k1:=zbl (c:=c) (k:=12) (m:=100) (by decide)
 have k2:=zdM (c:=c) (k:=12) (m:=100) (by decide)
 unfold zfN at h
 split at h
 ·cases h
 split at h
 ·cases h
 split at h
 ·cases h
 split at h
 ·cases h
 split at h
 ·cases h
 ·cases h;exact⟨k1,k2⟩
theorem zhD {N A:List (List Int)}{T:Int→List (List Int)}{oath:Oath}{d:Dd}{n:Nat}(hN:N.length≤100∧∀ l∈N,l.length=9) (hA:∀ l∈A,l.length=9) (hT:∀ p,∀ l∈T p,l.length=9) (ok:lOk n d) (ho:∀ m,(oath m).2.length≤100):∀ g∈zbG N A T oath d,g.1.length=9∧g.2.length≤1000∧∀ l∈g.2,l.length=9:=by
 have two:∀ {x y:List Int}{g:List Int},g.length=9→x.length=9→y.length=9→g.length=9∧(N++[x,y]).length≤1000∧∀ l∈N++[x,y],l.length=9:=λ{x y g} hg hx hy=>⟨hg,by simp;omega,λl hl=>by
  simp only[zma,List.mem_cons,List.not_mem_nil,or_false] at hl
  rcases hl with z | z | z
  ·exact hN.2 l z
  ·rw[z];exact hx
  ·rw[z];exact hy⟩
 have one:∀ {x:List Int}{g:List Int},g.length=9→x.length=9→g.length=9∧(N++[x]).length≤1000∧∀ l∈N++[x],l.length=9:=λ{x g} hg hx=>⟨hg,by simp;omega,λl hl=>by
  simp only[zma,List.mem_cons,List.not_mem_nil,or_false] at hl
  rcases hl with z | z
  ·exact hN.2 l z
  ·rw[z];exact hx⟩
 have nil:∀ {g:List Int},g.length=9→g.length=9∧N.length≤1000∧∀ l∈N,l.length=9:=λhg=>⟨hg,by omega,hN.2⟩
 intro g hg
 cases d with
 | set h l=>
  obtain⟨x,hx,rfl⟩:=zmm.mp hg
  exact nil (za8 λz hz=>(ziT ok.2.1 ok.2.2 z hz).1)
 | part h l b=>
  obtain⟨x,hx,rfl⟩:=zmm.mp hg
  refine two (za8 λz hz=>(ziT (zak 6) (zaQ 6) z hz).1) ?_ ?_
  ·unfold za4;exact zaL λz hz=>by
    simp at hz
    rcases hz with rfl | rfl
    ·exact ok.2.1
    ·exact zak 6
  ·unfold greatest;exact zaL λz hz=>by
    simp at hz
    rcases hz with rfl | rfl | rfl
    ·exact zak 6
    ·exact zaX _
    ·exact ok.2.1
 | draw h lo hi=>
  obtain⟨x,hx,rfl⟩:=zmm.mp hg
  refine two (za8 λz hz=>(ziT (zak 6) (zaQ 6) z hz).1) ?_ ?_
  ·unfold zb5;exact zaL λz hz=>by
    simp at hz
    rcases hz with rfl | rfl
    ·exact zak 6
    ·exact zaX _
  ·unfold zcx;exact zaL λz hz=>by
    simp at hz
    rcases hz with rfl | rfl
    ·exact zaX _
    ·exact zak 6
 | turn l p=>
  have l9:l.length=9:=ok.1
  have b9:(zcN l).length=9:=by
   unfold zcN;exact zaL λz hz=>by
    simp at hz
    rcases hz with rfl | rfl
    ·exact l9
    ·exact zaX _
  rcases zma.mp hg with hg | hg
  ·obtain⟨x,hx,rfl⟩:=zmm.mp hg
   exact one (hT p x hx) l9
  ·obtain⟨x,hx,rfl⟩:=zmm.mp hg
   exact one (hA x hx) b9
 | hold l=>
  have l9:l.length=9:=ok
  rcases zma.mp hg with hg | hg
  ·rw[zms.mp hg];exact nil l9
  ·obtain⟨x,hx,rfl⟩:=zmm.mp hg
   exact one (hA x hx) l9
 | call m g0 g1 t0 t1=>
  have gU:=zk4 (k:=4) (j:=5) (zak g0) (zaQ g0) (zak g1) (zaQ g1)
  rcases zma.mp hg with hg | hg
  ·obtain⟨x,hx,rfl⟩:=zmm.mp hg
   exact nil (za8 λz hz=>(gU z hz).1)
  ·obtain⟨x,hx,rfl⟩:=zmm.mp hg
   refine⟨za8 λz hz=>(zk4 (zak 6) (zaQ 6) (zak 7) (zaQ 7) z hz).1,?_,λl hl=>?_⟩
   ·have:=ho m
    simp only[List.length_append,zlm];omega
   ·rcases zma.mp hl with z | z
    ·exact hN.2 l z
    ·obtain⟨y,_,rfl⟩:=zmm.mp z
     exact za8 λz hz=>(gU z hz).1
theorem ziW {N A:List (List Int)}{T:Int→List (List Int)}{oath:Oath}{d:Dd}(hA:A.length≤2) (hT:∀ p,(T p).length≤2) (ho:∀ m,(oath m).1.length≤2):(zbG N A T oath d).length≤4:=by
 cases d with
 | turn l p=>have:=hT p;simp only[zbG,List.length_append,zlm];omega
 | call m g0 g1 t0 t1=>have:=ho m;simp only[zbG,List.length_append,zlm];omega
 | hold l=>simp only[zbG,List.length_append,zlm,List.length_cons,List.length_nil];omega
 | _=>simp only[zbG,zlm];omega
theorem ze6 {leaves:List (List Int)}{notes:List (List (List Int))}{oath:Oath}{n:Nat}(hD:∀ p,(dueL leaves notes p).length≤2∧∀ l∈dueL leaves notes p,l.length=9) (ho:∀ m,(oath m).1.length≤2∧(oath m).2.length≤100):∀ (ds:List Dd) (p:Nat),(∀ d∈ds,lOk n d)→(zb3 leaves notes oath ds p).length≤4 * ds.length∧∀ g∈zb3 leaves notes oath ds p,g.1.length=9∧g.2.length≤1000∧∀ l∈g.2,l.length=9
 | [],_,_=>⟨Nat.le_refl _,λg hg=>by cases hg⟩
 | d::ds,p,h=>by
  have ih:=ze6 hD ho ds (p+1) λe he=>h e (List.mem_cons_of_mem _ he)
  have h1:=ziW (N:=dueL leaves notes p) (d:=d) (hD ((p:Int)+1)).1 (λq=>(hD q).1) λm=>(ho m).1
  have h2:=zhD (d:=d) ⟨by have:=(hD p).1;omega,(hD p).2⟩ (hD ((p:Int)+1)).2 (λq=>(hD q).2) (h d List.mem_cons_self) λm=>(ho m).2
  refine⟨?_,λg hg=>?_⟩
  ·show (zbG _ _ _ _ d++zb3 leaves notes oath ds (p+1)).length≤_
   rw[List.length_append,List.length_cons]
   omega
  ·rcases zma.mp (show g∈zbG _ _ _ _ d++zb3 leaves notes oath ds (p+1) from hg) with z | z
   ·exact h2 g z
   ·exact ih.2 g z
theorem zhE {deeds:List Dd}{i:Nat}(h:i<deeds.length):za7 (deeds.take (i+1))=za7 (deeds.take i)++(zbD deeds[i]).toList:=by
 unfold za7
 rw[List.take_add_one,List.getElem?_eq_getElem h,List.filterMap_append]
 show _++List.filterMap zbD [deeds[i]]=_
 cases e:zbD deeds[i] <;> simp[List.filterMap_cons,e]
theorem znU {f:Addr}{fd:FuncData}(B:Bl K mg) {C:Nat→Addr}(Z:Zt K mg C) (G_l_parts_by:Fn P w K mg base "_law_parts_by" ["script","start","count"] 5 (zdZ K)) (M_Craft:Mkr P w K mg base "Craft" (C 0) ["self","needs","leaves","deeds","notes"] 2 (zbW K C)) (G_l_duties:Fn P w K mg base "_law_duties" ["parts","others"] 5 (ze4 K)) (G_duties:Fnx P w K mg base "duties" ["craft","crafts"] 6 (zdV K C)) (G_l_alike:Fn P w K mg base "_law_alike" ["found","due"] 3 (zfx K)) (G_l_cell_at:Fn P w K mg base "_law_cell_at" ["script","k"] 1 (zcq K)) (G_l_oath:Fn P w K mg base "_law_oath" ["number","cell"] 4 (zg1 K)) (G_l_refused:Fn P w K mg base "_law_refused" ["craft","crafts"] 7 (zen K C)) (F:Fun K "law" "law" s_law f fd):FnOk P w K mg base CX0 8 f fd ["script"] (sp_law K):=by
 refine F.ok (k:=7) zb8 (λvs H Q E h=>?_) (λcdv A outer s H vs Q E hr h=>?_)
 ·obtain⟨a,ns,rfl,_⟩:=h
  rfl
 obtain⟨a,ns,rfl,hS,h63,q⟩:=h
 refine⟨_,(zah (zaB (i:=1) zb8.nd rfl (Or.inl rfl) (zau (zaF K) zab (zau zcQ (zao G_l_cell_at hr rfl (zad (pv 0) (zai zab zaa))) zab)))
   (zah (zaB (i:=2) zb8.nd rfl (Or.inl rfl) (zao G_l_parts_by hr rfl (zad (pv 0) (zai zab (zad (pv 1) zaa)))))
   (zah (zaB (i:=3) zb8.nd rfl (Or.inl rfl) (znz M_Craft hr rfl (zaT (zav (k_ix K) (pv 2) zab (λ_ _=>rfl)) (zaT (zav (k_ix K) (pv 2) zab (λ_ _=>rfl)) (zaT (zav (k_ix K) (pv 2) zab (λ_ _=>rfl)) (zaT (zav (k_ix K) (pv 2) zab (λ_ _=>rfl)) zaa))))))
   (zah (zaB (i:=4) zb8.nd rfl (Or.inl rfl) zhQ)
   (zah (zaB (i:=5) zb8.nd rfl (Or.inl rfl) zhQ)
   (zah (zcK PassesOwn.never rfl (za3 K (zav (k_ix K) (pv 2) zab (λ_ _=>rfl))) (zas (i:=6) zb8.nd rfl (Or.inl rfl)) (zal (zbB (zaR (k_eq K hr) (zav (k_ix K) (pv 6) zab (λ_ _=>rfl)) zbN (za1 _)) (zal (zhf (hr_u hr) (pv 4) (zav (k_ix K) (pv 6) zab (λ_ _=>rfl)) (zao G_l_oath hr rfl (zaT (zav (k_ix K) (pv 6) zab (λ_ _=>rfl)) (zaz (zao G_l_cell_at hr rfl (zad (pv 0) (zai zab zaa))) zaa))) rfl)) zaP)))
   (zah (zcK PassesOwn.never rfl (za3 K (zaK (zcl rfl) rfl B.sorted L2.zcB (zad (pv 4) zaa))) (zas (i:=7) zb8.nd rfl (Or.inl rfl)) (zah (zaB (i:=8) zb8.nd rfl (Or.inl rfl) (zfD (hr_u hr) (pv 4) (pv 7) (λ_ _=>rfl)))
   (zal (zhf (hr_u hr) (pv 5) (pv 7) (znz M_Craft hr rfl (zaT (zav (k_ix K) (pv 8) zab (λ_ _=>rfl)) (zaT (zav (k_ix K) (pv 8) zab (λ_ _=>rfl)) (zbh (zaH (zb7 (zbg (zai zbN (zaU (zau zbi (zaH (zai zab zaa)) zab) zaa))) zaa)) (zbh (zaH (zbh (zaH zaa) zaa)) zaa))))) rfl))))
   (zah (zbB (PW.pt (zmz (zaR op_gt (zaK zgo rfl B.len L2.boot_len (zad (pv 4) zaa)) zab (za1 _)) (zlA (zaR (k_eq K hr) (zau zcQ (zao G_l_cell_at hr rfl (zad (pv 0) (zai zab zaa))) zab) zab (za1 _))))) (zah (zaB (i:=7) zb8.nd rfl (Or.inl rfl) (zav (k_ix K) (zaK (zcl rfl) rfl B.sorted L2.zcB (zad (pv 4) zaa)) (zau zcQ (zau zdw (zao G_l_cell_at hr rfl (zad (pv 0) (zai zab zaa))) zab) (zaK zgo rfl B.len L2.boot_len (zad (pv 4) zaa))) (λ_ _=>rfl)))
   (zah (zaB (i:=9) zb8.nd rfl (Or.inl rfl) (zkt (pv 5) (pv 7) ⟨rfl,rfl,rfl,rfl⟩))
   (zah (zbB (zef (zdi (zao G_l_refused hr rfl (zad (pv 3) (zad (pv 5) zaa))))) (zal (zaA zfz)) zaP)
   (zal (zhf (hr_u hr) (pv 5) (pv 7) (pv 9) rfl))))) zaP)
   (zah (zaB (i:=10) zb8.nd rfl (Or.inl rfl) (zao G_l_duties hr rfl (zad (pv 2) (zad (pv 4) zaa))))
   (zah (zaB (i:=11) zb8.nd rfl (Or.inl rfl) (zlp G_duties hr rfl zlr (zad (pv 3) (zad (pv 5) zaa))))
   (zah (zbB (zef (zdi (zao G_l_alike hr rfl (zad (pv 11) (zad (pv 10) zaa))))) (zal (zaA zfz)) zaP)
   (zah (zaB (i:=12) zb8.nd rfl (Or.inl rfl) (zau zcQ (zao G_l_cell_at hr rfl (zad (pv 0) (zai zab zaa))) (zaK (znf rfl) rfl B.max L2.zhV (zai zab (zaz (zaK (zep K) rfl B.len L2.boot_len (zad (pv 11) zaa)) zaa)))))
   (zah (zcK PassesOwn.never rfl (za3 K (zci (k_sl K) (pv 11) (zcA (pv 12)) (zcA (zau (zaF K) (pv 12) zab)))) (zas (i:=13) zb8.nd rfl (Or.inl rfl)) (zah (zew (zau (zaF K) (zav (k_ix K) (zav (k_ix K) (pv 13) zab (λ_ _=>rfl)) zab (λ_ _=>rfl)) zab) (zfi (zav (k_ix K) (pv 13) zab (λ_ _=>rfl)) zab zda))
   (zah (zcK PassesOwn.never rfl (za3 K (zav (k_ix K) (pv 13) zab (λ_ _=>rfl))) (zas (i:=14) zb8.nd rfl (Or.inl rfl)) (zal (zew (zau (zaF K) (zav (k_ix K) (pv 14) zab (λ_ _=>rfl)) zab) (zfi (pv 14) zab zda))))
   (zal (zi4 (zmY PySem.F.plainAttrs_list PySem.F.slot_list_append PySem.F.type_list_append zgi (zav (k_ix K) (pv 13) zab (λ_ _=>rfl)) (zaU (zau zbi (zaH (zai zab zaa)) zab) zaa)))))))
   (zah (zbB (zef (zdi (zao G_l_alike hr rfl (zaU (zau (zaF K) (zci (k_sl K) (pv 11) zdz (zcA (pv 12))) (zci (k_sl K) (pv 11) (zcA (zau (zaF K) (pv 12) zab)) zdz)) (zaU (zau (zaF K) (zci (k_sl K) (pv 10) zdz (zcA (pv 12))) (zci (k_sl K) (pv 10) (zcA (zau (zaF K) (pv 12) zab)) zdz)) zaa))))) (zal (zaA zfz)) zaP)
   (zal (zaA (zhG (zao G_l_alike hr rfl (zaz (zlp G_duties hr rfl zlr (zad (pv 3) (zad (pv 5) zaa))) (zad (pv 10) zaa))) (zi2 (zg8 (k_eq K hr) (zaK (zcl rfl) rfl B.sorted L2.zcB (zad (pv 5) zaa)) (zaK (zcl rfl) rfl B.sorted L2.zcB (zad (pv 4) zaa)) (za1 _)))))))))))))))))))),?_⟩
 have c1:=Int.emod_nonneg (cell ns 0) (show (8:Int)≠0 by decide)
 have c2:=Int.emod_lt_of_pos (cell ns 0) (show (0:Int)<8 by decide)
 generalize hcd:1+cell ns 0 % 8=c at *
 walk_at "q"
 walk_at "gs"
 refine zdY hS (by decide) ?_
 walk_at "gs"
 rw[hcd]
 walk_at "q"
 walk_at "gs"
 refine⟨a,3,c,ns,rfl,hS,by decide,by omega,by omega,λv H0 s0 n0=>?_⟩
 have n0':New H H0 (.lst [zaI (zeh ns 3),zaI (zcD ns 3),.lst ((zcM ns 3 c).map toD),.lst ((zcw ns 3 c).map zaI)]) v:=by rw[ziy];exact n0
 have kn:∀ l∈zeh ns 3,l.length=9:=zdC
 have kl:∀ l∈zcD ns 3,l.length=9:=zdC
 have kt:∀ ls∈zcw ns 3 c,ls.length≤2∧∀ l∈ls,l.length=9:=λls hls=>by
  obtain⟨k,_,rfl⟩:=zmm.mp hls
  exact⟨zeR _ _,zdC⟩
 have ln:(zeh ns 3).length≤2:=zeR _ _
 have ll:(zcD ns 3).length≤2:=zeR _ _
 have ld:(zcM ns 3 c).length=c.toNat:=by simp[zcM]
 have lt:(zcw ns 3 c).length=c.toNat:=by simp[zcw]
 have d9:∀ d∈zcM ns 3 c,zjX d:=λd hd=>by
  obtain⟨k,_,rfl⟩:=zmm.mp hd
  exact zho _ _
 have dl:∀ d∈zcM ns 3 c,lOk (zcM ns 3 c).length d:=λd hd=>by
  obtain⟨k,_,rfl⟩:=zmm.mp hd
  exact zkg (by omega) (by omega)
 have dc:∀ m∈za7 (zcM ns 3 c),m.natAbs<zcX:=λm hm=>by
  obtain⟨d,hd,e⟩:=ziE hm
  obtain⟨k,_,rfl⟩:=zmm.mp hd
  have:=zg4 e
  refine Nat.lt_of_lt_of_le (show m.natAbs<100 by omega) (by decide)
 have hP:zdl H0 v (zeh ns 3) (zcD ns 3) (zcM ns 3 c) (zcw ns 3 c):=zdl.of d9 n0'
 clear n0 n0'
 have hg:Good (zeh ns 3) (zcD ns 3) (zcM ns 3 c).length (zcw ns 3 c):=⟨by omega,by omega,by omega,by omega,kn,kl,λls h=>⟨by have:=(kt ls h).1;omega,(kt ls h).2⟩⟩
 have hdue:∀ p,(dueL (zcD ns 3) (zcw ns 3 c) p).length≤2∧∀ l∈dueL (zcD ns 3) (zcw ns 3 c) p,l.length=9:=λp=>⟨zml ll (λls h=>(kt ls h).1) p,(hg.due p).2⟩
 generalize zeh ns 3=needs at *
 generalize zcD ns 3=leaves at *
 generalize zcM ns 3 c=deeds at *
 generalize zcw ns 3 c=notes at *
 have hP0:=hP
 obtain⟨pa,y1,y2,a3,a4,dvs,nvs,rfl,hpa,r1,r2,h3,h4,dr,nr⟩:=hP
 -- the craft
 walk_at "gs"
 walk_at "q"
 walk_at "gs"
 refine zbE (SqL.of hpa) (v:=.ref y1) zar ?_
 walk_at "gs"
 refine zbE (SqL.of hpa) (v:=.ref y2) (zap (j:=1) rfl) ?_
 walk_at "gs"
 refine zbE (SqL.of hpa) (v:=.ref a3) (zap (j:=2) rfl) ?_
 walk_at "gs"
 refine zbE (SqL.of hpa) (v:=.ref a4) (zap (j:=3) rfl) ?_
 walk_at "gs"
 intro p dx np ndx nex
 refine zh9 np ndx r1 r2 h3 h4 dr nr d9 hg λH2 s2 hT2=>⟨rfl,?_⟩
 have s02:=s0.trans s2
 have hS2:=s02.seq hS
 have hP2:=hP0.same s2
 generalize hc1:cell ns 1=k1
 -- others,crafts
 walk_at "gs"
 walk_at "q"
 walk_at "gs"
 intro oa oa0
 have t1:=zae oa0 (.dK [])
 walk_at "gs"
 walk_at "q"
 walk_at "gs"
 intro ca ca1
 have t2:=zae ca1 (.dK [])
 have ca0:H2 ca=none:=t1.free ca1
 have nco:ca≠oa:=λz=>by rw[z,zac] at ca1;cases ca1
 walk_at "gs"
 walk_at "q"
 walk_at "gs"
 refine zbE (SqL.of ((t1.trans t2) _ _ (s2 _ _ hpa))) (v:=.ref a3) (zap (j:=2) rfl) ?_
 refine⟨a3,rfl,⟨_,SqL.of ((t1.trans t2) _ _ (s2 _ _ h3))⟩,?_⟩
 refine zd6 (xs:=dvs) (λi σ H'=>∃ x kvs ks,σ=[some (.ref a),some (.int c),some (.ref pa),some (.ref p),some (.ref oa),some (.ref ca),x,none,none,none,none,none,none,none,none]∧Same H2 H'∧H' oa=some (.dK kvs)∧H' ca=some (.dK [])∧KVs (OthV H' k1) kvs ks∧(∀ m,m∈ks↔m∈za7 (deeds.take i))∧ks.length≤i)
  ⟨none,[],[],rfl,t1.trans t2,t2 _ _ zac,zac,KVs.nil,λm=>by simp[za7],Nat.le_refl _⟩ (λi σ H' _ ⟨_,_,_,_,s,_⟩=>SqL.of (s _ _ (s2 _ _ h3))) ?_ ?_
 ·rintro i v σ H3 hv ⟨x,kvs,ks,rfl,s3,ho,hc,hk,hm,hl⟩
  have hi:i<deeds.length:=by have:=(zge.mp hv).1;have:=dr.1;omega
  have drx:=(dr.2 i deeds[i] v (by simp) hv).sq (s2.trans s3).sq
  have es:=zhE hi
  generalize deeds[i]=d at drx es
  obtain⟨t,xs',rfl,ht⟩:=zfP drx
  have ew:decide (zb6 d ="call")=(zbD d).isSome:=by
   cases d <;> first | rfl | (unfold zb6 zbD;decide +kernel)
  walk_at "gs"
  refine zax (SqT.of ht) zar ?_
  walk_at "gs"
  rw[ew]
  cases hcb:zbD d with
  | none=>
   refine zir (λz=>by cases z) (λ_=>?_)
   walk_at "gs"
   refine⟨_,kvs,ks,rfl,s3,ho,hc,hk,λm=>?_,by omega⟩
   rw[es,hcb,hm m];simp
  | some m=>
   refine zir (λ_=>?_) (λz=>by cases z)
   cases d with
   | call m' g0 g1 u0 u1=>
    cases hcb
    obtain⟨t',ys,et,hT3,px⟩:=za6 drx
    cases et
    obtain⟨x0,r,rfl,e0,px⟩:=zam px
    obtain⟨x1,r,rfl,e1,px⟩:=zam px
    cases za9 e1
    walk_at "gs"
    refine zax (SqT.of hT3) (v:=.int m) (zap (j:=1) rfl) ?_
    walk_at "gs"
    refine zdY (s3.seq hS2) (by decide) ?_
    rw[hc1]
    walk_at "gs"
    refine⟨m,k1,rfl,λv H4 s4 n4=>?_⟩
    obtain⟨f,hf,_⟩:=n4
    obtain⟨T,b1,b2,rfl,hT4,l1,l2⟩:=RepF.oath hf
    walk_at "gs"
    refine zax (SqT.of (s4 _ _ hT3)) (v:=.int m) (zap (j:=1) rfl) ?_
    have hlen:=hk.len
    have h8:=hg.d
    refine⟨oa,_,rfl,DPut.k (k:=.inl m) (s4 _ _ ho) (zcS (by omega)),?_⟩
    have nd:NoD H4 (upd H4 oa (.dK (putK kvs (.inl m) (.ref T)))):=zfR (s4 _ _ ho)
    refine⟨_,_,_,rfl,(s3.trans s4).put oa0,zac,by rw[zaw nco];exact s4 _ _ hc,((hk.mono λk v z=>z.nod s4.nod).put ⟨T,b1,b2,rfl,hT4,l1,l2⟩).mono λk v z=>z.nod nd,λk=>?_,?_⟩
    ·rw[es]
     have e:(zbD (Dd.call m g0 g1 u0 u1)).toList=[m]:=rfl
     rw[e,zma,zms,←hm k]
     by_cases z:m∈ks
     ·rw[if_pos z]
      exact⟨.inl,λw=>by
       rcases w with w | w
       ·exact w
       ·rw[w];exact z⟩
     ·rw[if_neg z,zma,zms]
    ·split
     ·omega
     ·rw[List.length_append];simp;omega
   | _=>cases hcb
 rintro σ H3 ⟨x6,kvs,ks,rfl,s3,ho,hc,hk,hm,hl⟩
 have ldv:=dr.1
 rw[←ldv,List.take_of_length_le (Nat.le_refl _)] at hm
 have hl8:ks.length≤100:=by have:=hg.d;omega
 -- the crafts that are called
 walk_at "q"
 walk_at "gs"
 refine zfL ho hk.1 (by have:=hg.d;omega) λsl nn hsl pm srt=>?_
 have t3:=zae hsl (.lst (nn.map V.int))
 refine⟨sl,rfl,⟨_,SqL.of zac⟩,?_⟩
 have nnd:nn.Nodup:=pm.nodup_iff.mpr hk.2.1
 have slc:sl≠ca:=λz=>by rw[z,hc] at hsl;cases hsl
 refine zd6 (xs:=nn.map V.int) (λi σ H'=>∃ x y kv2,σ=[some (.ref a),some (.int c),some (.ref pa),some (.ref p),some (.ref oa),some (.ref ca),x6,x,y,none,none,none,none,none,none]∧Same H2 H'∧NoD H3 H'∧H' oa=some (.dK kvs)∧H' ca=some (.dK kv2)∧H' sl=some (.lst (nn.map V.int))∧KVs (CrV K C H' k1) kv2 (nn.take i))
  ⟨none,none,[],rfl,s3.trans t3,t3.nod,t3 _ _ ho,t3 _ _ hc,zac,by rw[List.take_zero];exact KVs.nil⟩ (λi σ H' _ ⟨_,_,_,_,_,_,_,_,e,_⟩=>SqL.of e) ?_ ?_
 ·rintro i v σ H4 hv ⟨x,y,kv2,rfl,s4,nd4,ho4,hc4,hs4,hk2⟩
  rw[zgm] at hv
  obtain⟨m,hm',rfl⟩:=zme.mp hv
  have hi:=(zge.mp hm').1
  have lnn:=pm.length_eq
  have mk:m∈ks:=pm.mem_iff.mp (zmg hm')
  obtain⟨ov,hov,T,b1,b2,rfl,hT,l1,l2⟩:=hk.2.2 m mk
  have hT4:=nd4 _ _ hT (λ_ z=>by cases z)
  have l14:=l1.nod nd4
  have l24:=l2.nod nd4
  have mnot:m∉nn.take i:=λz=>by
   obtain⟨j,hj,e⟩:=List.getElem_of_mem z
   rw[List.length_take] at hj
   rw[List.getElem_take] at e
   have e2:nn[i]=m:=by rw[List.getElem?_eq_getElem hi] at hm';exact Option.some.inj hm'
   have:=(List.getElem_inj nnd).mp (e.trans e2.symm)
   omega
  walk_at "gs"
  walk_at "q"
  walk_at "gs"
  refine⟨oa,.ref T,rfl,by rw[←hov];exact DGet.k (k:=.inl m) ho4,?_⟩
  walk_at "gs"
  refine zax (SqT.of hT4) (v:=.ref b1) zar ?_
  walk_at "gs"
  refine zax (SqT.of hT4) (v:=.ref b2) (zap (j:=1) rfl) ?_
  walk_at "gs"
  refine⟨zag (by simp),λz1 hz1=>?_⟩
  have w1:=zae hz1 (.lst [V.int 0])
  walk_at "gs"
  refine .inr ⟨z1,9,[.int 0],rfl,rfl,zac,by decide,by decide,by decide,λz2 hz2=>?_⟩
  have w2:=zae hz2 (.lst (List.replicate (9:Int).toNat [V.int 0]).flatten)
  have hz:(upd (upd H4 z1 (.lst [V.int 0])) z2 (.lst (List.replicate (9:Int).toNat [V.int 0]).flatten)) z2=some (.lst ((List.replicate 9 (0:Int)).map V.int)):=zac
  have w12:=w1.trans w2
  generalize (upd (upd H4 z1 (.lst [V.int 0])) z2 (.lst (List.replicate (9:Int).toNat [V.int 0]).flatten))=H5 at hz w12
  walk_at "gs"
  refine⟨zag (by simp),λT1 hT1=>?_⟩
  have w3:=zae hT1 (.tup [V.str "hold",.ref z2])
  walk_at "gs"
  refine⟨zag (by simp),λq1 hq1=>?_⟩
  have w4:=zae hq1 (.lst [V.ref T1])
  walk_at "gs"
  refine⟨zag (by simp),λq2 hq2=>?_⟩
  have w5:=zae hq2 (.lst ([]:List V))
  walk_at "gs"
  refine⟨zag (by simp),λq3 hq3=>?_⟩
  have w6:=zae hq3 (.lst [V.ref q2])
  have w36:=w3.trans (w4.trans (w5.trans w6))
  have w46:=w4.trans (w5.trans w6)
  have wA:=w12.trans w36
  walk_at "gs"
  intro o dx' no ndx' nex'
  refine zh9 (deeds:=[Dd.hold (List.replicate 9 0)]) (notes:=[[]]) no ndx' (l14.same wA) (l24.same wA) ((w5.trans w6) _ _ zac) zac (R2.cons (zmi (w46 _ _ zac) (by simp) ⟨pS,pL (w36 _ _ hz),trivial⟩) R2.nil) (R2.cons ⟨q2,rfl,Ls.nil (w6 _ _ zac)⟩ R2.nil) (λd hd=>by rw[zms.mp hd];exact List.length_replicate) (zg3 m k1) λH6 s6 hT6=>⟨rfl,?_⟩
  have wB:=wA.trans s6
  have hlen:=hk2.len
  rw[List.length_take] at hlen
  have h8:=hg.d
  walk_at "gs"
  refine⟨ca,_,rfl,DPut.k (k:=.inl m) (wB _ _ hc4) (zcS (by omega)),?_⟩
  have nd:NoD H6 (upd H6 ca (.dK (putK kv2 (.inl m) (.ref o)))):=zfR (wB _ _ hc4)
  refine⟨_,_,_,rfl,(s4.trans wB).put ca0,(nd4.trans wB.nod).trans nd,by rw[zaw nco.symm];exact wB _ _ ho4,zac,by rw[zaw slc];exact wB _ _ hs4,?_⟩
  have put:=((hk2.mono λk v z=>z.nod wB.nod).put (m:=m) (v:=.ref o) ⟨o,_,_,rfl,hT6.1,by simpa using zg3 m k1⟩).mono λk v z=>z.nod nd
  rw[if_neg mnot] at put
  rw[List.take_add_one,hm']
  exact put
 rintro σ H4 ⟨x7,x8,kv2,rfl,s4,nd4,ho4,hc4,hs4,hk2⟩
 rw[zlm,List.take_of_length_le (Nat.le_refl _)] at hk2
 have hk4:KVs (OthV H4 k1) kvs ks:=hk.mono λk v z=>z.nod nd4
 have lnn:=pm.length_eq
 have hlk:=hk.len
 have hS4:=s4.seq hS2
 generalize hc2:cell ns 2=k2
 -- one of them is taken away,and put back
 with_reducible refine goOn (by assumption) ?_
 with_reducible refine zlq (λσ H'=>∃ x7 x9 kv2 ks2,σ=[some (.ref a),some (.int c),some (.ref pa),some (.ref p),some (.ref oa),some (.ref ca),x6,x7,x8,x9,none,none,none,none,none]∧Same H2 H'∧H' oa=some (.dK kvs)∧H' ca=some (.dK kv2)∧KVs (OthV H' k1) kvs ks∧KVs (CrV K C H' k1) kv2 ks2∧ks2.Perm ks) (λNX tail=>?_) ?_
 ·walk_at "gs"
  refine⟨oa,kvs,rfl,ho4,?_⟩
  walk_at "gs"
  refine zir (λe1=>?_) (λe1=>?_)
  ·have pos:(kvs.length:Int)>0:=of_decide_eq_true e1
   walk_at "gs"
   refine zdY hS4 (by decide) ?_
   rw[hc2]
   walk_at "gs"
   refine zir (λe2=>?_) (λe2=>?_)
   ·walk_at "q"
    walk_at "gs"
    refine zfL ho4 hk.1 (by have:=hg.d;omega) λsl2 nn2 hsl2 pm2 srt2=>?_
    have t5:=zae hsl2 (.lst (nn2.map V.int))
    walk_at "gs"
    refine zdY (t5.seq hS4) (by decide) ?_
    rw[hc2]
    walk_at "gs"
    refine⟨oa,kvs,rfl,t5 _ _ ho4,?_⟩
    walk_at "gs"
    have i1:=Int.emod_nonneg (k2 / 6) (show (kvs.length:Int)≠0 by omega)
    have i2:=Int.emod_lt_of_pos (k2 / 6) (show 0<(kvs.length:Int) by omega)
    generalize k2 / 6 % (kvs.length:Int)=ix at i1 i2
    have ln2:=pm2.length_eq
    have hix:ix.toNat<nn2.length:=by omega
    refine zbE (SqL.of zac) (v:=.int nn2[ix.toNat]) (zhY i1 (by rw[zgm,List.getElem?_eq_getElem hix];rfl)) ?_
    have mk:nn2[ix.toNat]∈ks:=pm2.mem_iff.mp (List.getElem_mem hix)
    generalize nn2[ix.toNat]=m at mk
    have mk2:m∈nn:=pm.mem_iff.mpr mk
    obtain⟨ov,hov,hcr⟩:=hk2.2.2 m mk2
    walk_at "gs"
    walk_at "q"
    walk_at "gs"
    refine⟨ca,rfl,.inl ⟨_,.inl (t5 _ _ hc4)⟩,?_⟩
    walk_at "gs"
    refine⟨kv2,.inl m,ov,t5 _ _ hc4,rfl,hov,?_⟩
    have nd6:NoD (upd H4 sl2 (.lst (nn2.map V.int))) (upd (upd H4 sl2 (.lst (nn2.map V.int))) ca (.dK (zb0 kv2 (.inl m)))):=zfR (t5 _ _ hc4)
    have s6:Same H2 (upd (upd H4 sl2 (.lst (nn2.map V.int))) ca (.dK (zb0 kv2 (.inl m)))):=(s4.trans t5).put ca0
    have ho6:(upd (upd H4 sl2 (.lst (nn2.map V.int))) ca (.dK (zb0 kv2 (.inl m)))) oa=some (.dK kvs):=by rw[zaw nco.symm];exact t5 _ _ ho4
    have hc6:(upd (upd H4 sl2 (.lst (nn2.map V.int))) ca (.dK (zb0 kv2 (.inl m)))) ca=some (.dK (zb0 kv2 (.inl m))):=zac
    have nd46:=t5.nod.trans nd6
    generalize (upd (upd H4 sl2 (.lst (nn2.map V.int))) ca (.dK (zb0 kv2 (.inl m))))=H6 at s6 ho6 hc6 nd46
    have hk6:KVs (OthV H6 k1) kvs ks:=hk4.mono λk v z=>z.nod nd46
    have hcr6:=hcr.nod nd46
    have hd6:KVs (CrV K C H6 k1) (zb0 kv2 (.inl m)) (nn.filter λk=>decide (k≠m)):=(hk2.mono λk v z=>z.nod nd46).drop
    walk_at "gs"
    with_reducible refine zfQ (λQ2 q2=>?_) (λH7 s7=>?_)
    ·walk_at "gs"
     refine⟨p,ca,needs,leaves,deeds,notes,_,rfl,zdm.same s6 hT2,hg,λd hd=>zkh (dl d hd),hc6,dc,⟨m,(hm m).mp mk,by rw[zeQ,if_pos rfl]⟩,λH' s'=>?_⟩
     walk_at "gs"
     exact q2 _ s'
    walk_at "gs"
    have hdl:=hd6.len
    have hfl:=List.length_filter_le (λk=>decide (k≠m)) nn
    have h8:=hg.d
    refine⟨ca,_,rfl,DPut.k (k:=.inl m) (s7 _ _ hc6) (zcS (by omega)),?_⟩
    have nd8:NoD H7 (upd H7 ca (.dK (putK (zb0 kv2 (.inl m)) (.inl m) ov))):=zfR (s7 _ _ hc6)
    have put:=((hd6.mono λk v z=>z.nod s7.nod).put (hcr6.nod s7.nod)).mono λk v z=>z.nod nd8
    rw[if_neg (by simp)] at put
    exact tail _ _ ⟨_,_,_,_,rfl,(s6.trans s7).put ca0,by rw[zaw nco.symm];exact s7 _ _ ho6,zac,hk6.mono λk v z=>z.nod (s7.nod.trans nd8),put,(ziD nnd mk2).trans pm⟩
   ·walk_at "gs"
    exact tail _ _ ⟨_,none,kv2,nn,rfl,s4,ho4,hc4,hk4,hk2,pm⟩
  ·walk_at "gs"
   exact tail _ _ ⟨_,none,kv2,nn,rfl,s4,ho4,hc4,hk4,hk2,pm⟩
 clear hk2 hc4 hk4 ho4 nd4 hs4 hS4
 rintro σ H5 ⟨x7,x9,kv2,ks2,rfl,s5,ho5,hc5,hk5,hk2,pm2⟩
 -- due
 have hcl:∀ d∈deeds,zfw H5 kvs (λm=>(zcz m k1,zct m k1)) d:=λd hd=>by
  cases d with
  | call m g0 g1 u0 u1=>
   obtain⟨_,e,T,b1,b2,rfl,h1,h2,h3⟩:=hk5.2.2 m ((hm m).mpr (zh3 hd))
   have o2:=zd0 m k1
   have o9:=ze5 m k1
   exact⟨T,b1,b2,e,h1,h2,h3,by show (zcz m k1).length≤100;omega,by show (zct m k1).length≤100;omega,o9.1,o9.2⟩
  | _=>trivial
 have hcc:∀ d∈deeds,ziF K (C 0) H5 kv2 (λm=>(zcz m k1,zct m k1)) d:=λd hd=>by
  cases d with
  | call m g0 g1 u0 u1=>
   obtain⟨_,e,o,ds,ns',rfl,h1,h2⟩:=hk2.2.2 m (pm2.mem_iff.mpr ((hm m).mpr (zh3 hd)))
   exact⟨o,ds,ns',e,h1,h2⟩
  | _=>trivial
 have hsome:∀ m∈za7 deeds,(valV kv2 (.inl m)).isSome=true:=λm hm'=>by
  obtain⟨_,e,_⟩:=hk2.2.2 m (pm2.mem_iff.mpr ((hm m).mpr hm'))
  rw[e];rfl
 have gg:=ze6 (n:=deeds.length) (leaves:=leaves) (notes:=notes) (oath:=λm=>(zcz m k1,zct m k1)) hdue (λm=>⟨(zd0 m k1).1,by have:=(zd0 m k1).2;show (zct m k1).length≤100;omega⟩) deeds 0 dl
 have glen:(zcc needs leaves deeds notes (λm=>(zcz m k1,zct m k1))).length≤1000:=by
  unfold zcc zdR
  rw[List.length_append,zlm]
  have h1:=(hdue 0).1
  have h2:=hg.d
  omega
 have g9:∀ g∈zcc needs leaves deeds notes (λm=>(zcz m k1,zct m k1)),g.1.length=9∧g.2.length≤1000∧∀ l∈g.2,l.length=9:=λg hg'=>by
  unfold zcc zdR at hg'
  rcases zma.mp hg' with z | z
  ·obtain⟨x,_,rfl⟩:=zmm.mp z
   exact⟨za8 λl hl=>(zk5 l hl).1,by show needs.length≤1000;omega,kn⟩
  ·exact gg.2 g z
 walk_at "q"
 walk_at "gs"
 refine⟨_,oa,needs,leaves,deeds,notes,kvs,_,rfl,hP2.same s5,hg,dl,ho5,hcl,glen,λda H6 s6 hD=>?_⟩
 -- found
 have s26:=s5.trans s6
 have duty:∀ (H':Hp) (Q:VK),Same H6 H'→(∀ v H'',Same H' H''→New H' H'' (.lst ((zcc needs leaves deeds notes (λm=>(zcz m k1,zct m k1))).map duD)) v→Q v H'')→zdV K C [.ref p,.ref ca] H' Q E0:=λH' Q s' hq=>
  ⟨p,ca,needs,leaves,deeds,notes,kv2,(λm=>(zcz m k1,zct m k1)),rfl,zdm.same (s26.trans s') hT2,hg,λd hd=>zkh (dl d hd),s' _ _ (s6 _ _ hc5),dc,.inr ⟨hsome,λd hd=>(hcc d hd).same (s6.trans s'),by rw[←zfs,zlm];exact glen,λv H'' s'' n''=>hq v H'' s'' (by rw[zfs];exact n'')⟩⟩
 generalize zcc needs leaves deeds notes (λm=>(zcz m k1,zct m k1))=gs at *
 walk_at "gs"
 walk_at "q"
 walk_at "gs"
 refine duty _ _ (Same.refl _) λv H7 s7 n7=>?_
 obtain⟨fa,xs,fp,rfl,fa0,hfa,hfr,fnd,fan,ff⟩:=New.lst_out n7
 have rX:=zaj.duties hfr
 have lxs:=rX.1
 walk_at "gs"
 with_reducible refine zfQ (λQ2 q2=>?_) (λH8 s8=>?_)
 ·walk_at "gs"
  refine⟨fa,da,gs,rfl,⟨xs,hfa,rX⟩,hD.same s7,glen,g9,λH' s'=>?_⟩
  walk_at "gs"
  exact q2 _ s'
 have s68:=s7.trans s8
 have hfa8:=s8 _ _ hfa
 have hS8:=(s26.trans s68).seq hS2
 -- at
 walk_at "q"
 walk_at "gs"
 refine zdY hS8 (by decide) ?_
 rw[hc2]
 walk_at "gs"
 refine zd5 (.inl (SqL.of hfa8)) ?_
 walk_at "gs"
 refine znp ?_
 have hmx:0<(if ((xs.length:Nat):Int)>1 then ((xs.length:Nat):Int) else 1):=by split <;> omega
 have hmx2:(if ((xs.length:Nat):Int)>1 then ((xs.length:Nat):Int) else 1)=xs.length∨xs.length=0:=by
  split
  ·exact .inl rfl
  ·rcases Nat.eq_zero_or_pos xs.length with z | z
   ·exact .inr z
   ·exact .inl (by omega)
 generalize (if ((xs.length:Nat):Int)>1 then ((xs.length:Nat):Int) else 1)=mx at hmx hmx2
 refine znh hmx ?_
 have a1:=Int.emod_nonneg k2 (show mx≠0 by omega)
 have a2:=Int.emod_lt_of_pos k2 hmx
 generalize k2 % mx=pl at a1 a2
 walk_at "gs"
 -- one duty is changed
 with_reducible refine zlq (λσ H'=>∃ x13 x14,σ=[some (.ref a),some (.int c),some (.ref pa),some (.ref p),some (.ref oa),some (.ref ca),x6,x7,x8,x9,some (.ref da),some (.ref fa),some (.int pl),x13,x14]∧Same H6 H'∧H' fa=some (.lst xs)∧R2 (zdk H') (gs.take pl.toNat) (xs.take pl.toNat)∧R2 (zdk H') (gs.drop (pl.toNat+1)) (xs.drop (pl.toNat+1))) (λNX tail=>?_) ?_
 ·walk_at "gs"
  refine zhn (SqL.of hfa8) λsl hsl=>?_
  have t9:=zae hsl (.lst (cutV xs (some pl) (some (pl+1))))
  refine⟨sl,rfl,⟨_,SqL.of zac⟩,?_⟩
  by_cases hx0:xs.length=0
  ·have e1:xs=[]:=List.length_eq_zero_iff.mp hx0
   have e2:gs=[]:=List.length_eq_zero_iff.mp (by omega)
   subst e1;subst e2
   refine zd6 (xs:=[]) (λi σ H'=>σ=[some (.ref a),some (.int c),some (.ref pa),some (.ref p),some (.ref oa),some (.ref ca),x6,x7,x8,x9,some (.ref da),some (.ref fa),some (.int pl),none,none]∧H'=upd H8 sl (.lst (cutV [] (some pl) (some (pl+1)))))
    ⟨rfl,rfl⟩ (λi σ H' _ ⟨_,e⟩=>by rw[e,zmk];exact SqL.of zac) ?_ ?_
   ·rintro i v σ H' hv _
    simp at hv
   ·rintro σ H' ⟨rfl,rfl⟩
    refine tail _ _ ⟨none,none,rfl,s68.trans t9,t9 _ _ hfa8,by simp;exact R2.nil,by simp;exact R2.nil⟩
  ·have hpl:pl.toNat<xs.length:=by omega
   have hgl:pl.toNat<gs.length:=by omega
   rw[zmj a1 (List.getElem?_eq_getElem hpl)] at t9 ⊢
   -- the duty's own lists
   have hfr8:zaj H8 (gs.map duD) xs fp:=zaj.sq s8.sq _ hfr
   obtain⟨f1,f2,ef,c1',c2'⟩:=zaj.cut pl.toNat hfr8
   rw[←List.map_drop,←List.map_take] at *
   rw[List.drop_eq_getElem_cons hgl,List.drop_eq_getElem_cons hpl,zmc] at c2'
   unfold zaj at c2'
   obtain⟨_,_,f3,f4,ev,e34,hitem,hrest⟩:=c2'
   cases ev
   subst e34
   subst ef
   obtain⟨T,ga,na,as,eT,hT,hga,hna,las,hlas,mga,mna,mas⟩:=RepF.duty hitem
   rw[eT] at t9 ⊢
   obtain⟨i9,_,i99⟩:=g9 gs[pl.toNat] (List.getElem_mem hgl)
   have nd2:=(List.nodup_append.mp fnd).2.1
   have off1:∀ b∈f1,b∉f3:=λb hb z=>(List.nodup_append.mp fnd).2.2 b hb b (List.mem_append_left _ z) rfl
   have off4:∀ b∈f4,b∉f3:=λb hb z=>(List.nodup_append.mp nd2).2.2 b z b hb rfl
   have lst3:∀ b,b=ga∨b=na∨b∈as→∃ ys,H8 b=some (.lst ys):=λb hb=>by
    rcases hb with rfl | rfl | hb
    ·exact⟨_,hga⟩
    ·exact⟨_,hna⟩
    ·obtain⟨j,hj,rfl⟩:=List.getElem_of_mem hb
     exact⟨_,hlas j as[j] (gs[pl.toNat].2[j]'(by omega)) (by simp) (by simp)⟩
   have in3:∀ b,b=ga∨b=na∨b∈as→b∈f3:=λb hb=>by
    rcases hb with rfl | rfl | hb
    ·exact mga
    ·exact mna
    ·exact mas b hb
   have nin:∀ b,b=ga∨b∈as→is9 H8 b:=λb hb=>by
    rcases hb with rfl | hb
    ·exact⟨_,i9,hga⟩
    ·obtain⟨j,hj,rfl⟩:=List.getElem_of_mem hb
     exact⟨_,i99 _ (List.getElem_mem (by omega)),hlas j as[j] (gs[pl.toNat].2[j]'(by omega)) (by simp) (by simp)⟩
   have nna:¬ (na=ga∨na∈as):=λz=>zkL hna (λx hx i=>by
    obtain⟨b,_,rfl⟩:=zmm.mp hx
    exact λw=>by cases w) (nin na z)
   have last:∀ {H':Hp},(∀ b o,¬ (b=ga∨b=na∨b∈as)→H8 b=some o→H' b=some o)→Same H6 H'∧H' fa=some (.lst xs)∧R2 (zdk H') (gs.take pl.toNat) (xs.take pl.toNat)∧R2 (zdk H') (gs.drop (pl.toNat+1)) (xs.drop (pl.toNat+1)):=λ{H'} off=>by
    have tk:Tups H8 H':=λb ys e=>off b _ (λz=>by obtain⟨zs,w⟩:=lst3 b z;rw[w] at e;cases e) e
    have fr:∀ b,b∉f3→∀ o,H8 b=some o→H' b=H8 b:=λb hb o e=>by rw[e];exact off b o (λz=>hb (in3 b z)) e
    refine⟨λb o e=>off b o (λz=>?_) (s68 _ _ e),off fa _ (λz=>fan (List.mem_append_right _ (List.mem_append_left _ (in3 fa z)))) hfa8,zaj.duties (zaj.frame tk _ (λb hb=>?_) c1'),zaj.duties (zaj.frame tk _ (λb hb=>?_) hrest)⟩
    ·have:=ff b (List.mem_append_right _ (List.mem_append_left _ (in3 b z)))
     rw[this] at e;cases e
    ·obtain⟨o,ho⟩:=zaj.has _ c1' b hb
     exact fr b (off1 b hb) o ho
    ·obtain⟨o,ho⟩:=zaj.has _ hrest b hb
     exact fr b (off4 b hb) o ho
   have mt0:Mt (λb=>b=ga∨b∈as) (upd H8 sl (.lst [V.ref T])) (upd H8 sl (.lst [V.ref T])):=⟨λ_ _ _ e=>e,λb hb=>(nin b hb).same t9⟩
   refine zd6 (xs:=[V.ref T]) (λi σ H'=>∃ x13 x14,σ=[some (.ref a),some (.int c),some (.ref pa),some (.ref p),some (.ref oa),some (.ref ca),x6,x7,x8,x9,some (.ref da),some (.ref fa),some (.int pl),x13,x14]∧(i=0→H'=upd H8 sl (.lst [V.ref T]))∧H' sl=some (.lst [V.ref T])∧∀ b o,¬ (b=ga∨b=na∨b∈as)→H8 b=some o→H' b=some o)
    ⟨none,none,rfl,λ_=>rfl,zac,λb o _ e=>t9 _ _ e⟩ (λi σ H' _ ⟨_,_,_,_,e,_⟩=>SqL.of e) ?_ ?_
   ·rintro i v σ H' hv ⟨x13,x14,rfl,h0,hsl',off⟩
    have i0:i=0:=by have:=(zge.mp hv).1;simp at this;exact this
    subst i0
    simp at hv
    subst hv
    have h0:=h0 rfl
    subst h0
    have hT9:=t9 _ _ hT
    obtain⟨x0,xr,hxr,e5⟩:=(mt0.on ga (.inl rfl)).cons
    have mt1:=mt0.set (b:=ga) (.inl rfl) (l:=x0::xr) (by simp[hxr]) (x0+1)
    have sln:¬ (sl=ga∨sl∈as):=λz=>by
     obtain⟨l,_,e⟩:=nin sl z
     rw[hsl] at e;cases e
    have tupo:∀ {H':Hp},Mt (λb=>b=ga∨b∈as) (upd H8 sl (.lst [V.ref T])) H'→H' T=some (.tup [.ref ga,.ref na]):=λm=>m.off _ _ (λz=>zkK hT (nin T z)) hT9
    have nao:∀ {H':Hp},Mt (λb=>b=ga∨b∈as) (upd H8 sl (.lst [V.ref T])) H'→H' na=some (.lst (as.map V.ref)):=λm=>m.off _ _ nna (t9 _ _ hna)
    walk_at "gs"
    walk_at "q"
    walk_at "gs"
    refine zax (SqT.of hT9) (v:=.ref ga) zar ?_
    walk_at "gs"
    refine zbE (SqL.of e5) (v:=.int x0) zar ?_
    walk_at "gs"
    refine zax (SqT.of hT9) (v:=.ref ga) zar ?_
    walk_at "gs"
    refine zeK e5 ix0 ?_
    walk_at "gs"
    walk_at "q"
    walk_at "gs"
    refine zax (SqT.of (tupo mt1)) (v:=.ref na) (zap (j:=1) rfl) ?_
    refine⟨na,rfl,⟨_,SqL.of (nao mt1)⟩,?_⟩
    refine zd6 (xs:=as.map V.ref) (λj σ H'=>∃ x14,σ=[some (.ref a),some (.int c),some (.ref pa),some (.ref p),some (.ref oa),some (.ref ca),x6,x7,x8,x9,some (.ref da),some (.ref fa),some (.int pl),some (.ref T),x14]∧Mt (λb=>b=ga∨b∈as) (upd H8 sl (.lst [V.ref T])) H')
     ⟨x14,rfl,mt1⟩ (λj σ H' _ ⟨_,_,m⟩=>SqL.of (nao m)) ?_ ?_
    ·rintro j x σ Hj hx ⟨x14',rfl,mtj⟩
     obtain⟨b,hb,rfl⟩:=zmm.mp (zmg hx)
     obtain⟨z0,zr,hzr,eb⟩:=(mtj.on b (.inr hb)).cons
     walk_at "gs"
     refine zbE (SqL.of eb) (v:=.int z0) zar ?_
     walk_at "gs"
     refine zeK eb ix0 ?_
     exact⟨_,rfl,mtj.set (.inr hb) (l:=z0::zr) (by simp[hzr]) _⟩
    ·rintro σ Hj ⟨x14',rfl,mtj⟩
     walk_at "gs"
     refine zax (SqT.of (tupo mtj)) (v:=.ref na) (zap (j:=1) rfl) ?_
     refine⟨tyL (nao mtj),?_⟩
     walk_at "gs"
     refine⟨zag (by simp),λz1 hz1=>?_⟩
     have w1:=zae hz1 (.lst [V.int 0])
     walk_at "gs"
     refine .inr ⟨z1,9,[.int 0],rfl,rfl,zac,by decide,by decide,by decide,λz2 hz2=>?_⟩
     have w2:=zae hz2 (.lst (List.replicate (9:Int).toNat [V.int 0]).flatten)
     walk_at "gs"
     have lA:as.length≤1000:=by have:=(g9 gs[pl.toNat] (List.getElem_mem hgl)).2.1;omega
     refine i_app (w2 _ _ (w1 _ _ (nao mtj))) (Nat.lt_of_le_of_lt (by rw[zlm];exact lA) (by decide)) ?_
     walk_at "gs"
     have nsl:sl≠na:=λz=>by rw[z,hna] at hsl;cases hsl
     refine⟨_,_,rfl,λz=>absurd z (by decide),?_,λb o hb e=>?_⟩
     ·rw[zaw nsl]
      exact w2 _ _ (w1 _ _ (mtj.off _ _ sln zac))
     ·rw[zaw (λz=>hb (.inr (.inl z)))]
      exact w2 _ _ (w1 _ _ (mtj.off _ _ (λz=>hb (by rcases z with z | z;exact .inl z;exact .inr (.inr z))) (t9 _ _ e)))
   ·rintro σ H' ⟨x13,x14,rfl,_,_,off⟩
    exact tail _ _ ⟨_,_,rfl,last off⟩
 rintro σ H9 ⟨x13,x14,rfl,s9,hfa9,rT,rD⟩
 have hD9:=hD.same s9
 obtain⟨dvs',hda9,rDue⟩:=hD9
 have ldv':=rDue.1
 -- the others are as they were
 with_reducible refine zfQ (λQ2 q2=>?_) (λH10 s10=>?_)
 ·walk_at "gs"
  refine zhn (SqL.of hfa9) λp1 hp1=>?_
  rw[zgJ a1]
  have t1:=zae hp1 (.lst (xs.take pl.toNat))
  walk_at "gs"
  refine zhn (SqL.of (t1 _ _ hfa9)) λp2 hp2=>?_
  rw[zgI (show 0≤pl+1 by omega),show (pl+1).toNat=pl.toNat+1 by omega]
  have t2:=zae hp2 (.lst (xs.drop (pl.toNat+1)))
  walk_at "gs"
  refine zbk (t2 _ _ zac) zac (zag (by simp;omega)) λp3 hp3=>?_
  have t3:=zae hp3 (.lst (xs.take pl.toNat++xs.drop (pl.toNat+1)))
  have t13:=t1.trans (t2.trans t3)
  walk_at "gs"
  refine zhn (SqL.of (t13 _ _ hda9)) λp4 hp4=>?_
  rw[zgJ a1]
  have t4:=zae hp4 (.lst (dvs'.take pl.toNat))
  walk_at "gs"
  refine zhn (SqL.of (t4 _ _ (t13 _ _ hda9))) λp5 hp5=>?_
  rw[zgI (show 0≤pl+1 by omega),show (pl+1).toNat=pl.toNat+1 by omega]
  have t5:=zae hp5 (.lst (dvs'.drop (pl.toNat+1)))
  walk_at "gs"
  refine zbk (t5 _ _ zac) zac (zag (by simp;omega)) λp6 hp6=>?_
  have t6:=zae hp6 (.lst (dvs'.take pl.toNat++dvs'.drop (pl.toNat+1)))
  have t46:=t4.trans (t5.trans t6)
  have tA:=t13.trans t46
  walk_at "gs"
  refine⟨p3,p6,gs.take pl.toNat++gs.drop (pl.toNat+1),rfl,⟨_,t46 _ _ zac,(rT.mono λ_ _ z=>z.same tA).append (rD.mono λ_ _ z=>z.same tA)⟩,⟨_,zac,((rDue.take _).mono λ_ _ z=>z.same tA).append ((rDue.drop _).mono λ_ _ z=>z.same tA)⟩,by simp;omega,λg hg'=>?_,λH' s'=>?_⟩
  ·rcases zma.mp hg' with z | z
   ·exact g9 g (List.mem_of_mem_take z)
   ·exact g9 g (List.mem_of_mem_drop z)
  ·walk_at "gs"
   exact q2 _ (tA.trans s')
 -- told again
 have sA:=s9.trans s10
 walk_at "gs"
 refine duty _ _ sA λv H11 s11 n11=>?_
 obtain⟨fb,xs2,fp2,rfl,fb0,hfb,hfr2,_⟩:=New.lst_out n11
 have sB:=sA.trans s11
 walk_at "gs"
 refine⟨fb,da,gs,rfl,⟨xs2,hfb,zaj.duties hfr2⟩,hD.same sB,glen,g9,λH12 s12=>?_⟩
 have sC:=sB.trans s12
 walk_at "gs"
 have h8:=hg.d
 have lks2:=pm2.length_eq
 refine zfL (sC _ _ (s6 _ _ hc5)) hk2.1 (by omega) λl1 m1 hl1 pe1 so1=>?_
 have u1:=zae hl1 (.lst (m1.map V.int))
 walk_at "gs"
 refine zfL (u1 _ _ (sC _ _ (s6 _ _ ho5))) hk.1 (by omega) λl2 m2 hl2 pe2 so2=>?_
 have u2:=zae hl2 (.lst (m2.map V.int))
 have em:m1=m2:=zeP ((pe1.trans pm2).trans pe2.symm) so1 so2
 subst em
 refine zl2 (d:=nums m1) (zbJ.mpr ⟨l1,rfl,SqL.of (u2 _ _ zac)⟩) (zbJ.mpr ⟨l2,rfl,SqL.of zac⟩) (Nat.le_trans (zeu _) (by decide)) ?_
 exact q _
end
end My
namespace My
open PySem L2 PyProof.Rows
theorem all_mk {l:PySem.W.OpenLaw}{w:World}{K:Fg}{h:Heap}{mg:Str→Option Value}{fa:Addr}(X:K.In h) (G:h.Ns mainGlobals mg) (hfa:mg "law"=some (.ref fa))
  {C0 C1 C2 f1 f2 f3 f4 f5 f6 f7 f8 f9 f10 f11 f12 f13 f14 f15 f16 f17 f18 f19 f20 f21 f22 f23 f24 f25 f26 f27 f28 f29 f30 f31 f32 f33 f34 f35 f36 f37 f38 f39 f40 f41 a_LEFT_AS_HANDS xN1 xN2:Addr}
  {od1 an1 od2 an2 od3 an3 od4 an4 od5 an5 od6 an6 od7 an7 od8 an8 od9 an9 od10 an10 od11 an11 od12 an12 od13 an13 od14 an14 od15 an15 od16 an16 od17 an17 od18 an18 od19 an19 od20 an20 od21 an21 od22 an22 od23 an23 od24 an24 od25 an25 od26 an26 od27 an27 od28 an28 od29 an29 od30 an30 od31 an31 od32 an32 od33 an33 od34 an34 od35 an35 od36 an36 od37 an37 od38 an38 od39 an39 od40 an40 od41 an41 dd_LEFT_AS_HANDS xd1 xd2:Option Addr}
  {sl1 sl2 sl3 sl4 sl5 sl6 sl7 sl8 sl9 sl10 sl11 sl12 sl13 sl14 sl15 sl16 sl17 sl18 sl19 sl20 sl21 sl22 sl23 sl24 sl25 sl26 sl27 sl28 sl29 sl30 sl31 sl32 sl33 sl34 sl35 sl36 sl37 sl38 sl39 sl40 sl41 ss_LEFT_AS_HANDS:Array (Option Value)}
  {oc1 kV1 dc1 pm1 cd1 ct1 oc2 kV2 dc2 pm2 cd2 ct2 oc3 kV3 dc3 pm3 cd3 ct3 oc4 kV4 dc4 pm4 cd4 ct4 oc5 kV5 dc5 pm5 cd5 ct5 oc6 kV6 dc6 pm6 cd6 ct6 oc7 kV7 dc7 pm7 cd7 ct7 oc8 kV8 dc8 pm8 cd8 ct8 oc9 kV9 dc9 pm9 cd9 ct9 oc10 kV10 dc10 pm10 cd10 ct10 oc11 kV11 dc11 pm11 cd11 ct11 oc12 kV12 dc12 pm12 cd12 ct12 oc13 kV13 dc13 pm13 cd13 ct13 oc14 kV14 dc14 pm14 cd14 ct14 oc15 kV15 dc15 pm15 cd15 ct15 oc16 kV16 dc16 pm16 cd16 ct16 oc17 kV17 dc17 pm17 cd17 ct17 oc18 kV18 dc18 pm18 cd18 ct18 oc19 kV19 dc19 pm19 cd19 ct19 oc20 kV20 dc20 pm20 cd20 ct20 oc21 kV21 dc21 pm21 cd21 ct21 oc22 kV22 dc22 pm22 cd22 ct22 oc23 kV23 dc23 pm23 cd23 ct23 oc24 kV24 dc24 pm24 cd24 ct24 oc25 kV25 dc25 pm25 cd25 ct25 oc26 kV26 dc26 pm26 cd26 ct26 oc27 kV27 dc27 pm27 cd27 ct27 oc28 kV28 dc28 pm28 cd28 ct28 oc29 kV29 dc29 pm29 cd29 ct29 oc30 kV30 dc30 pm30 cd30 ct30 oc31 kV31 dc31 pm31 cd31 ct31 oc32 kV32 dc32 pm32 cd32 ct32 oc33 kV33 dc33 pm33 cd33 ct33 oc34 kV34 dc34 pm34 cd34 ct34 oc35 kV35 dc35 pm35 cd35 ct35 oc36 kV36 dc36 pm36 cd36 ct36 oc37 kV37 dc37 pm37 cd37 ct37 oc38 kV38 dc38 pm38 cd38 ct38 oc39 kV39 dc39 pm39 cd39 ct39 oc40 kV40 dc40 pm40 cd40 ct40 oc41 kV41 dc41 pm41 cd41 ct41:Value}
  {t_NUMBERS t_FACTORS t_LEFT_AS_HANDS_0 t_LEFT_AS_HANDS_1 t_LEFT_AS_HANDS_2 t_LEFT_AS_HANDS_3 t_LEFT_AS_HANDS_4 t_LEFT_AS_HANDS_5 t_LEFT_AS_HANDS_6 t_LEFT_AS_HANDS_7 t_ASKED_0 t_ASKED_1 t_NEW_0 t_NEW_1:Tok}
  {n_LEFT_AS_HANDS:Nat}
  {xn1 xq1 xn2 xq2:Str}
  {xb1 xs1 xb2 xs2:List Value}
  {xh1 xa1 xh2 xa2:Bool}
  {xl1 xl2:List Str}
  {xc1 xc2:Option Bool}
  {x0_1 x1_1 x2_1 x3_1 x5_1 x0_2 x1_2 x2_2 x3_2 x5_2:Option Value}
  (aC0:PySem.W.nsIn K mainGlobals "Craft"=some (some (.ref C0)))
  (aC1:PySem.W.nsIn K mainGlobals "HallError"=some (some (.ref C1)))
  (aC2:PySem.W.nsIn K mainGlobals "Unmet"=some (some (.ref C2)))
  (a1:PySem.W.nsIn K mainGlobals "copied_lines"=some (some (.ref f1))) (l1:K.lookup f1=some ⟨oc1,od1,.func (PySem.W.fnOf "copied_lines" "copied_lines" (zay s_copied_lines) (zat s_copied_lines) (zaf s_copied_lines) .none kV1 dc1 pm1 an1 cd1 ct1),sl1⟩) (c1:PySem.W.codeIn K cd1 "copied_lines"=true) (k1:PySem.W.keepIn K (.ref f1)=true)
  (a2:PySem.W.nsIn K mainGlobals "copied_deed"=some (some (.ref f2))) (l2:K.lookup f2=some ⟨oc2,od2,.func (PySem.W.fnOf "copied_deed" "copied_deed" (zay s_copied_deed) (zat s_copied_deed) (zaf s_copied_deed) .none kV2 dc2 pm2 an2 cd2 ct2),sl2⟩) (c2:PySem.W.codeIn K cd2 "copied_deed"=true) (k2:PySem.W.keepIn K (.ref f2)=true)
  (a3:PySem.W.findIn K (.ref C0) "__init__"=some (some (.ref f3))) (i3:PySem.W.isFn K (.ref f3)=true) (l3:K.lookup f3=some ⟨oc3,od3,.func (PySem.W.fnOf "__init__" "Craft.__init__" (zay s_Craft___init__) (zat s_Craft___init__) (zaf s_Craft___init__) .none kV3 dc3 pm3 an3 cd3 ct3),sl3⟩) (c3:PySem.W.codeIn K cd3 "Craft.__init__"=true) (k3:PySem.W.keepIn K (.ref f3)=true)
  (a4:PySem.W.nsIn K mainGlobals "bare"=some (some (.ref f4))) (l4:K.lookup f4=some ⟨oc4,od4,.func (PySem.W.fnOf "bare" "bare" (zay s_bare) (zat s_bare) (zaf s_bare) .none kV4 dc4 pm4 an4 cd4 ct4),sl4⟩) (c4:PySem.W.codeIn K cd4 "bare"=true) (k4:PySem.W.keepIn K (.ref f4)=true)
  (a5:PySem.W.nsIn K mainGlobals "summed"=some (some (.ref f5))) (l5:K.lookup f5=some ⟨oc5,od5,.func (PySem.W.fnOf "summed" "summed" (zay s_summed) (zat s_summed) (zaf s_summed) .none kV5 dc5 pm5 an5 cd5 ct5),sl5⟩) (c5:PySem.W.codeIn K cd5 "summed"=true) (k5:PySem.W.keepIn K (.ref f5)=true)
  (a6:PySem.W.nsIn K mainGlobals "turned"=some (some (.ref f6))) (l6:K.lookup f6=some ⟨oc6,od6,.func (PySem.W.fnOf "turned" "turned" (zay s_turned) (zat s_turned) (zaf s_turned) .none kV6 dc6 pm6 an6 cd6 ct6),sl6⟩) (c6:PySem.W.codeIn K cd6 "turned"=true) (k6:PySem.W.keepIn K (.ref f6)=true)
  (a7:PySem.W.nsIn K mainGlobals "called_by"=some (some (.ref f7))) (l7:K.lookup f7=some ⟨oc7,od7,.func (PySem.W.fnOf "called_by" "called_by" (zay s_called_by) (zat s_called_by) (zaf s_called_by) .none kV7 dc7 pm7 an7 cd7 ct7),sl7⟩) (c7:PySem.W.codeIn K cd7 "called_by"=true) (k7:PySem.W.keepIn K (.ref f7)=true)
  (a8:PySem.W.nsIn K mainGlobals "between"=some (some (.ref f8))) (l8:K.lookup f8=some ⟨oc8,od8,.func (PySem.W.fnOf "between" "between" (zay s_between) (zat s_between) (zaf s_between) .none kV8 dc8 pm8 an8 cd8 ct8),sl8⟩) (c8:PySem.W.codeIn K cd8 "between"=true) (k8:PySem.W.keepIn K (.ref f8)=true)
  (a9:PySem.W.nsIn K mainGlobals "due_at"=some (some (.ref f9))) (l9:K.lookup f9=some ⟨oc9,od9,.func (PySem.W.fnOf "due_at" "due_at" (zay s_due_at) (zat s_due_at) (zaf s_due_at) .none kV9 dc9 pm9 an9 cd9 ct9),sl9⟩) (c9:PySem.W.codeIn K cd9 "due_at"=true) (k9:PySem.W.keepIn K (.ref f9)=true)
  (a10:PySem.W.nsIn K mainGlobals "eight_with"=some (some (.ref f10))) (l10:K.lookup f10=some ⟨oc10,od10,.func (PySem.W.fnOf "eight_with" "eight_with" (zay s_eight_with) (zat s_eight_with) (zaf s_eight_with) .none kV10 dc10 pm10 an10 cd10 ct10),sl10⟩) (c10:PySem.W.codeIn K cd10 "eight_with"=true) (k10:PySem.W.keepIn K (.ref f10)=true)
  (a11:PySem.W.nsIn K mainGlobals "each_from"=some (some (.ref f11))) (l11:K.lookup f11=some ⟨oc11,od11,.func (PySem.W.fnOf "each_from" "each_from" (zay s_each_from) (zat s_each_from) (zaf s_each_from) .none kV11 dc11 pm11 an11 cd11 ct11),sl11⟩) (c11:PySem.W.codeIn K cd11 "each_from"=true) (k11:PySem.W.keepIn K (.ref f11)=true)
  (a12:PySem.W.nsIn K mainGlobals "all_turned"=some (some (.ref f12))) (l12:K.lookup f12=some ⟨oc12,od12,.func (PySem.W.fnOf "all_turned" "all_turned" (zay s_all_turned) (zat s_all_turned) (zaf s_all_turned) .none kV12 dc12 pm12 an12 cd12 ct12),sl12⟩) (c12:PySem.W.codeIn K cd12 "all_turned"=true) (k12:PySem.W.keepIn K (.ref f12)=true)
  (a13:PySem.W.nsIn K mainGlobals "constant"=some (some (.ref f13))) (l13:K.lookup f13=some ⟨oc13,od13,.func (PySem.W.fnOf "constant" "constant" (zay s_constant) (zat s_constant) (zaf s_constant) .none kV13 dc13 pm13 an13 cd13 ct13),sl13⟩) (c13:PySem.W.codeIn K cd13 "constant"=true) (k13:PySem.W.keepIn K (.ref f13)=true)
  (a14:PySem.W.nsIn K mainGlobals "first_duties"=some (some (.ref f14))) (l14:K.lookup f14=some ⟨oc14,od14,.func (PySem.W.fnOf "first_duties" "first_duties" (zay s_first_duties) (zat s_first_duties) (zaf s_first_duties) .none kV14 dc14 pm14 an14 cd14 ct14),sl14⟩) (c14:PySem.W.codeIn K cd14 "first_duties"=true) (k14:PySem.W.keepIn K (.ref f14)=true)
  (a15:PySem.W.nsIn K mainGlobals "call_duties"=some (some (.ref f15))) (l15:K.lookup f15=some ⟨oc15,od15,.func (PySem.W.fnOf "call_duties" "call_duties" (zay s_call_duties) (zat s_call_duties) (zaf s_call_duties) .none kV15 dc15 pm15 an15 cd15 ct15),sl15⟩) (c15:PySem.W.codeIn K cd15 "call_duties"=true) (k15:PySem.W.keepIn K (.ref f15)=true)
  (a16:PySem.W.nsIn K mainGlobals "part_duties"=some (some (.ref f16))) (l16:K.lookup f16=some ⟨oc16,od16,.func (PySem.W.fnOf "part_duties" "part_duties" (zay s_part_duties) (zat s_part_duties) (zaf s_part_duties) .none kV16 dc16 pm16 an16 cd16 ct16),sl16⟩) (c16:PySem.W.codeIn K cd16 "part_duties"=true) (k16:PySem.W.keepIn K (.ref f16)=true)
  (a17:PySem.W.nsIn K mainGlobals "draw_duties"=some (some (.ref f17))) (l17:K.lookup f17=some ⟨oc17,od17,.func (PySem.W.fnOf "draw_duties" "draw_duties" (zay s_draw_duties) (zat s_draw_duties) (zaf s_draw_duties) .none kV17 dc17 pm17 an17 cd17 ct17),sl17⟩) (c17:PySem.W.codeIn K cd17 "draw_duties"=true) (k17:PySem.W.keepIn K (.ref f17)=true)
  (a18:PySem.W.nsIn K mainGlobals "turn_duties"=some (some (.ref f18))) (l18:K.lookup f18=some ⟨oc18,od18,.func (PySem.W.fnOf "turn_duties" "turn_duties" (zay s_turn_duties) (zat s_turn_duties) (zaf s_turn_duties) .none kV18 dc18 pm18 an18 cd18 ct18),sl18⟩) (c18:PySem.W.codeIn K cd18 "turn_duties"=true) (k18:PySem.W.keepIn K (.ref f18)=true)
  (a19:PySem.W.nsIn K mainGlobals "deed_duties"=some (some (.ref f19))) (l19:K.lookup f19=some ⟨oc19,od19,.func (PySem.W.fnOf "deed_duties" "deed_duties" (zay s_deed_duties) (zat s_deed_duties) (zaf s_deed_duties) .none kV19 dc19 pm19 an19 cd19 ct19),sl19⟩) (c19:PySem.W.codeIn K cd19 "deed_duties"=true) (k19:PySem.W.keepIn K (.ref f19)=true)
  (a20:PySem.W.nsIn K mainGlobals "duties"=some (some (.ref f20))) (l20:K.lookup f20=some ⟨oc20,od20,.func (PySem.W.fnOf "duties" "duties" (zay s_duties) (zat s_duties) (zaf s_duties) .none kV20 dc20 pm20 an20 cd20 ct20),sl20⟩) (c20:PySem.W.codeIn K cd20 "duties"=true) (k20:PySem.W.keepIn K (.ref f20)=true)
  (a21:PySem.W.nsIn K mainGlobals "_law_mix"=some (some (.ref f21))) (l21:K.lookup f21=some ⟨oc21,od21,.func (PySem.W.fnOf "_law_mix" "_law_mix" (zay s_l_mix) (zat s_l_mix) (zaf s_l_mix) .none kV21 dc21 pm21 an21 cd21 ct21),sl21⟩) (c21:PySem.W.codeIn K cd21 "_law_mix"=true) (k21:PySem.W.keepIn K (.ref f21)=true)
  (a22:PySem.W.nsIn K mainGlobals "_law_number"=some (some (.ref f22))) (l22:K.lookup f22=some ⟨oc22,od22,.func (PySem.W.fnOf "_law_number" "_law_number" (zay s_l_number) (zat s_l_number) (zaf s_l_number) .none kV22 dc22 pm22 an22 cd22 ct22),sl22⟩) (c22:PySem.W.codeIn K cd22 "_law_number"=true) (k22:PySem.W.keepIn K (.ref f22)=true)
  (a23:PySem.W.nsIn K mainGlobals "_law_line_by"=some (some (.ref f23))) (l23:K.lookup f23=some ⟨oc23,od23,.func (PySem.W.fnOf "_law_line_by" "_law_line_by" (zay s_l_line_by) (zat s_l_line_by) (zaf s_l_line_by) .none kV23 dc23 pm23 an23 cd23 ct23),sl23⟩) (c23:PySem.W.codeIn K cd23 "_law_line_by"=true) (k23:PySem.W.keepIn K (.ref f23)=true)
  (a24:PySem.W.nsIn K mainGlobals "_law_lines_by"=some (some (.ref f24))) (l24:K.lookup f24=some ⟨oc24,od24,.func (PySem.W.fnOf "_law_lines_by" "_law_lines_by" (zay s_l_lines_by) (zat s_l_lines_by) (zaf s_l_lines_by) .none kV24 dc24 pm24 an24 cd24 ct24),sl24⟩) (c24:PySem.W.codeIn K cd24 "_law_lines_by"=true) (k24:PySem.W.keepIn K (.ref f24)=true)
  (a25:PySem.W.nsIn K mainGlobals "_law_cell_at"=some (some (.ref f25))) (l25:K.lookup f25=some ⟨oc25,od25,.func (PySem.W.fnOf "_law_cell_at" "_law_cell_at" (zay s_l_cell_at) (zat s_l_cell_at) (zaf s_l_cell_at) .none kV25 dc25 pm25 an25 cd25 ct25),sl25⟩) (c25:PySem.W.codeIn K cd25 "_law_cell_at"=true) (k25:PySem.W.keepIn K (.ref f25)=true)
  (a26:PySem.W.nsIn K mainGlobals "_law_deed_by"=some (some (.ref f26))) (l26:K.lookup f26=some ⟨oc26,od26,.func (PySem.W.fnOf "_law_deed_by" "_law_deed_by" (zay s_l_deed_by) (zat s_l_deed_by) (zaf s_l_deed_by) .none kV26 dc26 pm26 an26 cd26 ct26),sl26⟩) (c26:PySem.W.codeIn K cd26 "_law_deed_by"=true) (k26:PySem.W.keepIn K (.ref f26)=true)
  (a27:PySem.W.nsIn K mainGlobals "_law_parts_by"=some (some (.ref f27))) (l27:K.lookup f27=some ⟨oc27,od27,.func (PySem.W.fnOf "_law_parts_by" "_law_parts_by" (zay s_l_parts_by) (zat s_l_parts_by) (zaf s_l_parts_by) .none kV27 dc27 pm27 an27 cd27 ct27),sl27⟩) (c27:PySem.W.codeIn K cd27 "_law_parts_by"=true) (k27:PySem.W.keepIn K (.ref f27)=true)
  (a28:PySem.W.nsIn K mainGlobals "_law_bare"=some (some (.ref f28))) (l28:K.lookup f28=some ⟨oc28,od28,.func (PySem.W.fnOf "_law_bare" "_law_bare" (zay s_l_bare) (zat s_l_bare) (zaf s_l_bare) .none kV28 dc28 pm28 an28 cd28 ct28),sl28⟩) (c28:PySem.W.codeIn K cd28 "_law_bare"=true) (k28:PySem.W.keepIn K (.ref f28)=true)
  (a29:PySem.W.nsIn K mainGlobals "_law_eight"=some (some (.ref f29))) (l29:K.lookup f29=some ⟨oc29,od29,.func (PySem.W.fnOf "_law_eight" "_law_eight" (zay s_l_eight) (zat s_l_eight) (zaf s_l_eight) .none kV29 dc29 pm29 an29 cd29 ct29),sl29⟩) (c29:PySem.W.codeIn K cd29 "_law_eight"=true) (k29:PySem.W.keepIn K (.ref f29)=true)
  (a30:PySem.W.nsIn K mainGlobals "_law_turned"=some (some (.ref f30))) (l30:K.lookup f30=some ⟨oc30,od30,.func (PySem.W.fnOf "_law_turned" "_law_turned" (zay s_l_turned) (zat s_l_turned) (zaf s_l_turned) .none kV30 dc30 pm30 an30 cd30 ct30),sl30⟩) (c30:PySem.W.codeIn K cd30 "_law_turned"=true) (k30:PySem.W.keepIn K (.ref f30)=true)
  (a31:PySem.W.nsIn K mainGlobals "_law_alone"=some (some (.ref f31))) (l31:K.lookup f31=some ⟨oc31,od31,.func (PySem.W.fnOf "_law_alone" "_law_alone" (zay s_l_alone) (zat s_l_alone) (zaf s_l_alone) .none kV31 dc31 pm31 an31 cd31 ct31),sl31⟩) (c31:PySem.W.codeIn K cd31 "_law_alone"=true) (k31:PySem.W.keepIn K (.ref f31)=true)
  (a32:PySem.W.nsIn K mainGlobals "_law_due_at"=some (some (.ref f32))) (l32:K.lookup f32=some ⟨oc32,od32,.func (PySem.W.fnOf "_law_due_at" "_law_due_at" (zay s_l_due_at) (zat s_l_due_at) (zaf s_l_due_at) .none kV32 dc32 pm32 an32 cd32 ct32),sl32⟩) (c32:PySem.W.codeIn K cd32 "_law_due_at"=true) (k32:PySem.W.keepIn K (.ref f32)=true)
  (a33:PySem.W.nsIn K mainGlobals "_law_added"=some (some (.ref f33))) (l33:K.lookup f33=some ⟨oc33,od33,.func (PySem.W.fnOf "_law_added" "_law_added" (zay s_l_added) (zat s_l_added) (zaf s_l_added) .none kV33 dc33 pm33 an33 cd33 ct33),sl33⟩) (c33:PySem.W.codeIn K cd33 "_law_added"=true) (k33:PySem.W.keepIn K (.ref f33)=true)
  (a34:PySem.W.nsIn K mainGlobals "_law_deed_duties"=some (some (.ref f34))) (l34:K.lookup f34=some ⟨oc34,od34,.func (PySem.W.fnOf "_law_deed_duties" "_law_deed_duties" (zay s_l_deed_duties) (zat s_l_deed_duties) (zaf s_l_deed_duties) .none kV34 dc34 pm34 an34 cd34 ct34),sl34⟩) (c34:PySem.W.codeIn K cd34 "_law_deed_duties"=true) (k34:PySem.W.keepIn K (.ref f34)=true)
  (a35:PySem.W.nsIn K mainGlobals "_law_duties"=some (some (.ref f35))) (l35:K.lookup f35=some ⟨oc35,od35,.func (PySem.W.fnOf "_law_duties" "_law_duties" (zay s_l_duties) (zat s_l_duties) (zaf s_l_duties) .none kV35 dc35 pm35 an35 cd35 ct35),sl35⟩) (c35:PySem.W.codeIn K cd35 "_law_duties"=true) (k35:PySem.W.keepIn K (.ref f35)=true)
  (a36:PySem.W.nsIn K mainGlobals "_law_whole"=some (some (.ref f36))) (l36:K.lookup f36=some ⟨oc36,od36,.func (PySem.W.fnOf "_law_whole" "_law_whole" (zay s_l_whole) (zat s_l_whole) (zaf s_l_whole) .none kV36 dc36 pm36 an36 cd36 ct36),sl36⟩) (c36:PySem.W.codeIn K cd36 "_law_whole"=true) (k36:PySem.W.keepIn K (.ref f36)=true)
  (a37:PySem.W.nsIn K mainGlobals "_law_is_line"=some (some (.ref f37))) (l37:K.lookup f37=some ⟨oc37,od37,.func (PySem.W.fnOf "_law_is_line" "_law_is_line" (zay s_l_is_line) (zat s_l_is_line) (zaf s_l_is_line) .none kV37 dc37 pm37 an37 cd37 ct37),sl37⟩) (c37:PySem.W.codeIn K cd37 "_law_is_line"=true) (k37:PySem.W.keepIn K (.ref f37)=true)
  (a38:PySem.W.nsIn K mainGlobals "_law_alike"=some (some (.ref f38))) (l38:K.lookup f38=some ⟨oc38,od38,.func (PySem.W.fnOf "_law_alike" "_law_alike" (zay s_l_alike) (zat s_l_alike) (zaf s_l_alike) .none kV38 dc38 pm38 an38 cd38 ct38),sl38⟩) (c38:PySem.W.codeIn K cd38 "_law_alike"=true) (k38:PySem.W.keepIn K (.ref f38)=true)
  (a39:PySem.W.nsIn K mainGlobals "_law_oath"=some (some (.ref f39))) (l39:K.lookup f39=some ⟨oc39,od39,.func (PySem.W.fnOf "_law_oath" "_law_oath" (zay s_l_oath) (zat s_l_oath) (zaf s_l_oath) .none kV39 dc39 pm39 an39 cd39 ct39),sl39⟩) (c39:PySem.W.codeIn K cd39 "_law_oath"=true) (k39:PySem.W.keepIn K (.ref f39)=true)
  (a40:PySem.W.nsIn K mainGlobals "_law_refused"=some (some (.ref f40))) (l40:K.lookup f40=some ⟨oc40,od40,.func (PySem.W.fnOf "_law_refused" "_law_refused" (zay s_l_refused) (zat s_l_refused) (zaf s_l_refused) .none kV40 dc40 pm40 an40 cd40 ct40),sl40⟩) (c40:PySem.W.codeIn K cd40 "_law_refused"=true) (k40:PySem.W.keepIn K (.ref f40)=true)
  (a41:PySem.W.nsIn K mainGlobals "law"=some (some (.ref f41))) (l41:K.lookup f41=some ⟨oc41,od41,.func (PySem.W.fnOf "law" "law" (zay s_law) (zat s_law) (zaf s_law) .none kV41 dc41 pm41 an41 cd41 ct41),sl41⟩) (c41:PySem.W.codeIn K cd41 "law"=true) (k41:PySem.W.keepIn K (.ref f41)=true)
  (z_all:PySem.W.nsIn K mainGlobals "all"=some none)
  (z_bool:PySem.W.nsIn K mainGlobals "bool"=some none)
  (z_int:PySem.W.nsIn K mainGlobals "int"=some none)
  (z_isinstance:PySem.W.nsIn K mainGlobals "isinstance"=some none)
  (z_len:PySem.W.nsIn K mainGlobals "len"=some none)
  (z_list:PySem.W.nsIn K mainGlobals "list"=some none)
  (z_max:PySem.W.nsIn K mainGlobals "max"=some none)
  (z_min:PySem.W.nsIn K mainGlobals "min"=some none)
  (z_range:PySem.W.nsIn K mainGlobals "range"=some none)
  (z_sorted:PySem.W.nsIn K mainGlobals "sorted"=some none)
  (z_tuple:PySem.W.nsIn K mainGlobals "tuple"=some none)
  (z_zip:PySem.W.nsIn K mainGlobals "zip"=some none)
  (y_NUMBERS:PySem.W.nsIn K mainGlobals "NUMBERS"=some (some (.int 9 t_NUMBERS)))
  (y_FACTORS:PySem.W.nsIn K mainGlobals "FACTORS"=some (some (.int 8 t_FACTORS)))
  (y_LEFT_AS_HANDS:PySem.W.nsIn K mainGlobals "LEFT_AS_HANDS"=some (some (.ref a_LEFT_AS_HANDS))) (x_LEFT_AS_HANDS:K.lookup a_LEFT_AS_HANDS=some ⟨.type "tuple",dd_LEFT_AS_HANDS,.seq #[.int 0 t_LEFT_AS_HANDS_0,.int 1 t_LEFT_AS_HANDS_1,.int 2 t_LEFT_AS_HANDS_2,.int 3 t_LEFT_AS_HANDS_3,.int 4 t_LEFT_AS_HANDS_4,.int 5 t_LEFT_AS_HANDS_5,.int 0 t_LEFT_AS_HANDS_6,.int 1 t_LEFT_AS_HANDS_7] n_LEFT_AS_HANDS,ss_LEFT_AS_HANDS⟩)
  (y_ASKED_0:PySem.W.nsIn K mainGlobals "ASKED_0"=some (some (.int 4 t_ASKED_0)))
  (y_ASKED_1:PySem.W.nsIn K mainGlobals "ASKED_1"=some (some (.int 5 t_ASKED_1)))
  (y_NEW_0:PySem.W.nsIn K mainGlobals "NEW_0"=some (some (.int 6 t_NEW_0)))
  (y_NEW_1:PySem.W.nsIn K mainGlobals "NEW_1"=some (some (.int 7 t_NEW_1)))
  (oC1:K.lookup C1=some (PySem.excClassObj xn1 xq1 C1 xN1 xb1 zcJ xh1 xl1 xs1 xa1 xc1 xd1 x0_1 x1_1 x2_1 x3_1 x5_1 "ValueError.__new__")) (xC1:PySem.W.excIn K C1 zcJ "ValueError.__new__"=true)
  (oC2:K.lookup C2=some (PySem.excClassObj xn2 xq2 C2 xN2 xb2 (.ref C1::zcJ) xh2 xl2 xs2 xa2 xc2 xd2 x0_2 x1_2 x2_2 x3_2 x5_2 "ValueError.__new__")) (xC2:PySem.W.excIn K C2 zcJ "ValueError.__new__"=true)
  (pg0:PySem.W.plainGet K C0 Str.empty=true) (hd0:PySem.W.hasDictIn K C0=true) (po0:PySem.W.plainOver K C0=true) (sa0:PySem.W.findIn K (.ref C0) "__setattr__"=some (some (.builtin "object.__setattr__"))) (mk0:PySem.W.makesIn K C0=true) (kc0:PySem.W.keepIn K (.ref C0)=true)
  (na0_needs:PySem.W.findIn K (.ref C0) "needs"=some none)
  (na0_leaves:PySem.W.findIn K (.ref C0) "leaves"=some none)
  (na0_deeds:PySem.W.findIn K (.ref C0) "deeds"=some none)
  (na0_notes:PySem.W.findIn K (.ref C0) "notes"=some none) :
  ∃ fd:FuncData,(∀ (s:Shared) (v:Value),BindsTo s fd ⟨[v],[]⟩ [("script",v)])∧∀ base:Heap,K.In base→base.Ns mainGlobals mg→FnOk l.prog w K mg base CX0 8 fa fd ["script"] (sp_law K):=by
 have e:=hfa.symm.trans (PySem.W.mg_of X G a41)
 cases e
 have B:Bl K mg:=⟨PySem.W.mg_none_of X G z_all,PySem.W.mg_none_of X G z_bool,PySem.W.mg_none_of X G z_int,PySem.W.mg_none_of X G z_isinstance,PySem.W.mg_none_of X G z_len,PySem.W.mg_none_of X G z_list,PySem.W.mg_none_of X G z_max,PySem.W.mg_none_of X G z_min,PySem.W.mg_none_of X G z_range,PySem.W.mg_none_of X G z_sorted,PySem.W.mg_none_of X G z_tuple,PySem.W.mg_none_of X G z_zip,⟨_,PySem.W.mg_of X G y_NUMBERS⟩,⟨_,PySem.W.mg_of X G y_FACTORS⟩,⟨_,PySem.W.mg_of X G y_ASKED_0⟩,⟨_,PySem.W.mg_of X G y_ASKED_1⟩,⟨_,PySem.W.mg_of X G y_NEW_0⟩,⟨_,PySem.W.mg_of X G y_NEW_1⟩,⟨_,PySem.W.mg_of X G y_LEFT_AS_HANDS,λ_=>.inr ⟨_,_,_,x_LEFT_AS_HANDS,rfl,rfl,zag (by simp),.cons ⟨_,rfl⟩ (.cons ⟨_,rfl⟩ (.cons ⟨_,rfl⟩ (.cons ⟨_,rfl⟩ (.cons ⟨_,rfl⟩ (.cons ⟨_,rfl⟩ (.cons ⟨_,rfl⟩ (.cons ⟨_,rfl⟩ (.nil))))))))⟩⟩⟩
 have Z:Zt K mg (λi=>[C0,C1,C2].getD i 0):=⟨⟨pg0,hd0,po0,sa0⟩,PySem.W.mg_of X G aC0,na0_needs,na0_leaves,na0_deeds,na0_notes,⟨⟨_,_,_,_,_,_,_,_,_,_,_,_,_,_,_,oC1⟩,xC1⟩,PySem.W.mg_of X G aC1,⟨⟨_,_,_,_,_,_,_,_,_,_,_,_,_,_,_,oC2⟩,xC2⟩,PySem.W.mg_of X G aC2⟩
 have F1:=zaS (st:=s_copied_lines) l1 c1 k1
 have F2:=zaS (st:=s_copied_deed) l2 c2 k2
 have F3:=zaS (st:=s_Craft___init__) l3 c3 k3
 have F4:=zaS (st:=s_bare) l4 c4 k4
 have F5:=zaS (st:=s_summed) l5 c5 k5
 have F6:=zaS (st:=s_turned) l6 c6 k6
 have F7:=zaS (st:=s_called_by) l7 c7 k7
 have F8:=zaS (st:=s_between) l8 c8 k8
 have F9:=zaS (st:=s_due_at) l9 c9 k9
 have F10:=zaS (st:=s_eight_with) l10 c10 k10
 have F11:=zaS (st:=s_each_from) l11 c11 k11
 have F12:=zaS (st:=s_all_turned) l12 c12 k12
 have F13:=zaS (st:=s_constant) l13 c13 k13
 have F14:=zaS (st:=s_first_duties) l14 c14 k14
 have F15:=zaS (st:=s_call_duties) l15 c15 k15
 have F16:=zaS (st:=s_part_duties) l16 c16 k16
 have F17:=zaS (st:=s_draw_duties) l17 c17 k17
 have F18:=zaS (st:=s_turn_duties) l18 c18 k18
 have F19:=zaS (st:=s_deed_duties) l19 c19 k19
 have F20:=zaS (st:=s_duties) l20 c20 k20
 have F21:=zaS (st:=s_l_mix) l21 c21 k21
 have F22:=zaS (st:=s_l_number) l22 c22 k22
 have F23:=zaS (st:=s_l_line_by) l23 c23 k23
 have F24:=zaS (st:=s_l_lines_by) l24 c24 k24
 have F25:=zaS (st:=s_l_cell_at) l25 c25 k25
 have F26:=zaS (st:=s_l_deed_by) l26 c26 k26
 have F27:=zaS (st:=s_l_parts_by) l27 c27 k27
 have F28:=zaS (st:=s_l_bare) l28 c28 k28
 have F29:=zaS (st:=s_l_eight) l29 c29 k29
 have F30:=zaS (st:=s_l_turned) l30 c30 k30
 have F31:=zaS (st:=s_l_alone) l31 c31 k31
 have F32:=zaS (st:=s_l_due_at) l32 c32 k32
 have F33:=zaS (st:=s_l_added) l33 c33 k33
 have F34:=zaS (st:=s_l_deed_duties) l34 c34 k34
 have F35:=zaS (st:=s_l_duties) l35 c35 k35
 have F36:=zaS (st:=s_l_whole) l36 c36 k36
 have F37:=zaS (st:=s_l_is_line) l37 c37 k37
 have F38:=zaS (st:=s_l_alike) l38 c38 k38
 have F39:=zaS (st:=s_l_oath) l39 c39 k39
 have F40:=zaS (st:=s_l_refused) l40 c40 k40
 have F41:=zaS (st:=s_law) l41 c41 k41
 refine⟨PySem.W.fnOf "law" "law" (zay s_law) (zat s_law) (zaf s_law) .none kV41 dc41 pm41 an41 cd41 ct41,λs v=>.of_eq rfl,λbase _ _=>?_⟩
 have G1:=zeY (P:=l.prog) (w:=w) (base:=base) B Z  F1 (PySem.W.mg_of X G a1)
 have G2:=zfc (P:=l.prog) (w:=w) (base:=base) B Z  F2 (PySem.W.mg_of X G a2)
 have G3:=zk0 (P:=l.prog) (w:=w) (base:=base) B Z G1 G2 F3 ⟨mk0,a3,i3,kc0⟩
 have G4:=zmp (P:=l.prog) (w:=w) (base:=base) B Z  F4 (PySem.W.mg_of X G a4)
 have G5:=zj4 (P:=l.prog) (w:=w) (base:=base) B Z  F5 (PySem.W.mg_of X G a5)
 have G6:=zj5 (P:=l.prog) (w:=w) (base:=base) B Z G5 F6 (PySem.W.mg_of X G a6)
 have G7:=zgT (P:=l.prog) (w:=w) (base:=base) B Z  F7 (PySem.W.mg_of X G a7)
 have G8:=ziK (P:=l.prog) (w:=w) (base:=base) B Z  F8 (PySem.W.mg_of X G a8)
 have G9:=zj8 (P:=l.prog) (w:=w) (base:=base) B Z G8 G1 G4 G6 F9 (PySem.W.mg_of X G a9)
 have G10:=zfV (P:=l.prog) (w:=w) (base:=base) B Z G4 F10 (PySem.W.mg_of X G a10)
 have G11:=zgV (P:=l.prog) (w:=w) (base:=base) B Z G1 F11 (PySem.W.mg_of X G a11)
 have G12:=zfW (P:=l.prog) (w:=w) (base:=base) B Z G6 F12 (PySem.W.mg_of X G a12)
 have G13:=zht (P:=l.prog) (w:=w) (base:=base) B Z  F13 (PySem.W.mg_of X G a13)
 have G14:=ze0 (P:=l.prog) (w:=w) (base:=base) B Z G10 G11 G12 G4 G13 G9 F14 (PySem.W.mg_of X G a14)
 have G15:=zfd (P:=l.prog) (w:=w) (base:=base) B Z G10 G11 G12 G4 F15 (PySem.W.mg_of X G a15)
 have G16:=zfe (P:=l.prog) (w:=w) (base:=base) B Z G5 G11 G12 G4 G13 G10 F16 (PySem.W.mg_of X G a16)
 have G17:=zff (P:=l.prog) (w:=w) (base:=base) B Z G5 G11 G12 G4 G13 G10 F17 (PySem.W.mg_of X G a17)
 have G18:=zfg (P:=l.prog) (w:=w) (base:=base) B Z G5 G11 G13 F18 (PySem.W.mg_of X G a18)
 have G19:=zfh (P:=l.prog) (w:=w) (base:=base) B Z G9 G15 G11 G16 G17 G18 G12 G10 F19 (PySem.W.mg_of X G a19)
 have G20:=zka (P:=l.prog) (w:=w) (base:=base) B Z G7 G14 G19 F20 (PySem.W.mg_of X G a20)
 have G21:=zk2 (P:=l.prog) (w:=w) (base:=base) B Z  F21 (PySem.W.mg_of X G a21)
 have G22:=zhv (P:=l.prog) (w:=w) (base:=base) B Z G21 F22 (PySem.W.mg_of X G a22)
 have G23:=zgW (P:=l.prog) (w:=w) (base:=base) B Z G22 G21 F23 (PySem.W.mg_of X G a23)
 have G24:=zfZ (P:=l.prog) (w:=w) (base:=base) B Z G23 G21 F24 (PySem.W.mg_of X G a24)
 have G25:=zgX (P:=l.prog) (w:=w) (base:=base) B Z  F25 (PySem.W.mg_of X G a25)
 have G26:=zgY (P:=l.prog) (w:=w) (base:=base) B Z G23 G21 G22 F26 (PySem.W.mg_of X G a26)
 have G27:=zf0 (P:=l.prog) (w:=w) (base:=base) B Z G24 G25 G26 F27 (PySem.W.mg_of X G a27)
 have G28:=zkc (P:=l.prog) (w:=w) (base:=base) B Z  F28 (PySem.W.mg_of X G a28)
 have G29:=ziQ (P:=l.prog) (w:=w) (base:=base) B Z G28 F29 (PySem.W.mg_of X G a29)
 have G30:=zhy (P:=l.prog) (w:=w) (base:=base) B Z  F30 (PySem.W.mg_of X G a30)
 have G31:=ziR (P:=l.prog) (w:=w) (base:=base) B Z G30 F31 (PySem.W.mg_of X G a31)
 have G32:=zhA (P:=l.prog) (w:=w) (base:=base) B Z G30 G29 G28 F32 (PySem.W.mg_of X G a32)
 have G33:=ziS (P:=l.prog) (w:=w) (base:=base) B Z  F33 (PySem.W.mg_of X G a33)
 have G34:=zer (P:=l.prog) (w:=w) (base:=base) B Z G32 G29 G28 G33 G31 G30 F34 (PySem.W.mg_of X G a34)
 have G35:=zhC (P:=l.prog) (w:=w) (base:=base) B Z G29 G31 G32 G34 G28 F35 (PySem.W.mg_of X G a35)
 have G36:=ziU (P:=l.prog) (w:=w) (base:=base) B Z  F36 (PySem.W.mg_of X G a36)
 have G37:=zg0 (P:=l.prog) (w:=w) (base:=base) B Z G36 F37 (PySem.W.mg_of X G a37)
 have G38:=ziV (P:=l.prog) (w:=w) (base:=base) B Z G37 F38 (PySem.W.mg_of X G a38)
 have G39:=zke (P:=l.prog) (w:=w) (base:=base) B Z G23 F39 (PySem.W.mg_of X G a39)
 have G40:=zg2 (P:=l.prog) (w:=w) (base:=base) B Z G20 F40 (PySem.W.mg_of X G a40)
 exact znU B Z G27 G3 G35 G20 G38 G25 G39 G40 F41
end My

open PySem PySem.W PyProof.Rows
open My L2
set_option maxRecDepth 1000000 in
set_option maxHeartbeats 0 in
theorem PySem.Challenge.cw_swornhall_k09_duties_holds : PySem.Challenge.rw_swornhall_k09_duties.Holds := by
  refine holds_law My.said0 fun said => ?_
  refine holds_open (q := My.Qv) (loose := []) (Xt := fun s => xlAt My.Qv [] s && recOk (RowW.records PySem.Challenge.rw_swornhall_k09_duties.row.toRowW) s) (XP := XL My.Qv []) (Yf := Hook.obs My.HK) (Ya := Hook.val My.HK) (YP := Hook.says My.HK) (N := 3920) ?hl (Hook.of My.HK) (Hook.keeps My.HK) (fun s e => xl_of s (Bool.and_eq_true_iff.mp e).1) XL.keeps (by rfl) (by rfl) (by rfl) (fun s e => recFacts_of (Bool.and_eq_true_iff.mp e).2) (by rfl) (by first | assumption | decide +kernel) (by decide +kernel) ⟨rfl, rfl, rfl, rfl, rfl, by decide +kernel⟩ ?hw ?hc
  case hl => exact My.left0
  case hw => w_witness2
  case hc =>
    refine L2.walk_ofE (l := PySem.Challenge.rw_swornhall_k09_duties) (n := 63) (k := 8) (x := "script") (CX := L2.CX0) (sp := My.sp_law) (S := fun K => ((My.zBoo K).all id, My.zSee K) = (true, My.zSig)) rfl (by decide) rfl ⟨rfl, by decide, by decide, rfl⟩ (fun w h Y => Y) ?F (fun _ _ a ns hl _ hS => ⟨a, ns, rfl, hS, hl, fun _ => rfl⟩) (fun _ _ _ _ z => z)
    intro w K mg fa h hA KX G hmg
    obtain⟨_,_,_,_,_,_,_,_,_,l1,c1,k1⟩:=fA hA 0 4 56 "copied_lines" "copied_lines" s_copied_lines rfl rfl rfl
    obtain⟨_,_,_,_,_,_,_,_,_,l2,c2,k2⟩:=fA hA 1 6 61 "copied_deed" "copied_deed" s_copied_deed rfl rfl rfl
    obtain⟨_,_,_,_,_,_,_,_,_,l3,c3,k3⟩:=fA hA 2 9 44 "__init__" "Craft.__init__" s_Craft___init__ rfl rfl rfl
    obtain⟨_,_,_,_,_,_,_,_,_,l4,c4,k4⟩:=fA hA 3 11 19 "bare" "bare" s_bare rfl rfl rfl
    obtain⟨_,_,_,_,_,_,_,_,_,l5,c5,k5⟩:=fA hA 4 13 24 "summed" "summed" s_summed rfl rfl rfl
    obtain⟨_,_,_,_,_,_,_,_,_,l6,c6,k6⟩:=fA hA 5 15 31 "turned" "turned" s_turned rfl rfl rfl
    obtain⟨_,_,_,_,_,_,_,_,_,l7,c7,k7⟩:=fA hA 6 17 66 "called_by" "called_by" s_called_by rfl rfl rfl
    obtain⟨_,_,_,_,_,_,_,_,_,l8,c8,k8⟩:=fA hA 7 19 73 "between" "between" s_between rfl rfl rfl
    obtain⟨_,_,_,_,_,_,_,_,_,l9,c9,k9⟩:=fA hA 8 21 78 "due_at" "due_at" s_due_at rfl rfl rfl
    obtain⟨_,_,_,_,_,_,_,_,_,l10,c10,k10⟩:=fA hA 9 23 167 "eight_with" "eight_with" s_eight_with rfl rfl rfl
    obtain⟨_,_,_,_,_,_,_,_,_,l11,c11,k11⟩:=fA hA 10 25 157 "each_from" "each_from" s_each_from rfl rfl rfl
    obtain⟨_,_,_,_,_,_,_,_,_,l12,c12,k12⟩:=fA hA 11 27 162 "all_turned" "all_turned" s_all_turned rfl rfl rfl
    obtain⟨_,_,_,_,_,_,_,_,_,l13,c13,k13⟩:=fA hA 12 29 174 "constant" "constant" s_constant rfl rfl rfl
    obtain⟨_,_,_,_,_,_,_,_,_,l14,c14,k14⟩:=fA hA 13 31 117 "first_duties" "first_duties" s_first_duties rfl rfl rfl
    obtain⟨_,_,_,_,_,_,_,_,_,l15,c15,k15⟩:=fA hA 14 33 152 "call_duties" "call_duties" s_call_duties rfl rfl rfl
    obtain⟨_,_,_,_,_,_,_,_,_,l16,c16,k16⟩:=fA hA 15 35 131 "part_duties" "part_duties" s_part_duties rfl rfl rfl
    obtain⟨_,_,_,_,_,_,_,_,_,l17,c17,k17⟩:=fA hA 16 37 138 "draw_duties" "draw_duties" s_draw_duties rfl rfl rfl
    obtain⟨_,_,_,_,_,_,_,_,_,l18,c18,k18⟩:=fA hA 17 39 145 "turn_duties" "turn_duties" s_turn_duties rfl rfl rfl
    obtain⟨_,_,_,_,_,_,_,_,_,l19,c19,k19⟩:=fA hA 18 41 124 "deed_duties" "deed_duties" s_deed_duties rfl rfl rfl
    obtain⟨_,_,_,_,_,_,_,_,_,l20,c20,k20⟩:=fA hA 19 43 110 "duties" "duties" s_duties rfl rfl rfl
    obtain⟨_,_,_,_,_,_,_,_,_,l21,c21,k21⟩:=fA hA 20 45 188 "_law_mix" "_law_mix" s_l_mix rfl rfl rfl
    obtain⟨_,_,_,_,_,_,_,_,_,l22,c22,k22⟩:=fA hA 21 47 195 "_law_number" "_law_number" s_l_number rfl rfl rfl
    obtain⟨_,_,_,_,_,_,_,_,_,l23,c23,k23⟩:=fA hA 22 49 200 "_law_line_by" "_law_line_by" s_l_line_by rfl rfl rfl
    obtain⟨_,_,_,_,_,_,_,_,_,l24,c24,k24⟩:=fA hA 23 51 212 "_law_lines_by" "_law_lines_by" s_l_lines_by rfl rfl rfl
    obtain⟨_,_,_,_,_,_,_,_,_,l25,c25,k25⟩:=fA hA 24 53 181 "_law_cell_at" "_law_cell_at" s_l_cell_at rfl rfl rfl
    obtain⟨_,_,_,_,_,_,_,_,_,l26,c26,k26⟩:=fA hA 25 55 207 "_law_deed_by" "_law_deed_by" s_l_deed_by rfl rfl rfl
    obtain⟨_,_,_,_,_,_,_,_,_,l27,c27,k27⟩:=fA hA 26 57 217 "_law_parts_by" "_law_parts_by" s_l_parts_by rfl rfl rfl
    obtain⟨_,_,_,_,_,_,_,_,_,l28,c28,k28⟩:=fA hA 27 59 239 "_law_bare" "_law_bare" s_l_bare rfl rfl rfl
    obtain⟨_,_,_,_,_,_,_,_,_,l29,c29,k29⟩:=fA hA 28 61 251 "_law_eight" "_law_eight" s_l_eight rfl rfl rfl
    obtain⟨_,_,_,_,_,_,_,_,_,l30,c30,k30⟩:=fA hA 29 63 234 "_law_turned" "_law_turned" s_l_turned rfl rfl rfl
    obtain⟨_,_,_,_,_,_,_,_,_,l31,c31,k31⟩:=fA hA 30 65 246 "_law_alone" "_law_alone" s_l_alone rfl rfl rfl
    obtain⟨_,_,_,_,_,_,_,_,_,l32,c32,k32⟩:=fA hA 31 67 256 "_law_due_at" "_law_due_at" s_l_due_at rfl rfl rfl
    obtain⟨_,_,_,_,_,_,_,_,_,l33,c33,k33⟩:=fA hA 32 69 261 "_law_added" "_law_added" s_l_added rfl rfl rfl
    obtain⟨_,_,_,_,_,_,_,_,_,l34,c34,k34⟩:=fA hA 33 71 266 "_law_deed_duties" "_law_deed_duties" s_l_deed_duties rfl rfl rfl
    obtain⟨_,_,_,_,_,_,_,_,_,l35,c35,k35⟩:=fA hA 34 73 271 "_law_duties" "_law_duties" s_l_duties rfl rfl rfl
    obtain⟨_,_,_,_,_,_,_,_,_,l36,c36,k36⟩:=fA hA 35 75 224 "_law_whole" "_law_whole" s_l_whole rfl rfl rfl
    obtain⟨_,_,_,_,_,_,_,_,_,l37,c37,k37⟩:=fA hA 36 77 229 "_law_is_line" "_law_is_line" s_l_is_line rfl rfl rfl
    obtain⟨_,_,_,_,_,_,_,_,_,l38,c38,k38⟩:=fA hA 37 79 288 "_law_alike" "_law_alike" s_l_alike rfl rfl rfl
    obtain⟨_,_,_,_,_,_,_,_,_,l39,c39,k39⟩:=fA hA 38 81 276 "_law_oath" "_law_oath" s_l_oath rfl rfl rfl
    obtain⟨_,_,_,_,_,_,_,_,_,l40,c40,k40⟩:=fA hA 39 83 283 "_law_refused" "_law_refused" s_l_refused rfl rfl rfl
    obtain⟨_,_,_,_,_,_,_,_,_,l41,c41,k41⟩:=fA hA 40 85 295 "law" "law" s_law rfl rfl rfl
    obtain⟨_,_,_,xa_LEFT_AS_HANDS⟩:=L2.tup_of (bA hA 101 rfl)
    obtain⟨_,_,_,_,_,_,_,_,_,_,_,_,_,_,_,o1⟩:=L2.exc_of (bA hA 106 rfl)
    obtain⟨_,_,_,_,_,_,_,_,_,_,_,_,_,_,_,o2⟩:=L2.exc_of (bA hA 108 rfl)
    exact My.all_mk KX G hmg (eA hA 0 rfl) (eA hA 1 rfl) (eA hA 2 rfl) (eA hA 3 rfl) l1 c1 k1 (eA hA 5 rfl) l2 c2 k2 (eA hA 7 rfl) (bA hA 8 rfl) l3 c3 k3 (eA hA 10 rfl) l4 c4 k4 (eA hA 12 rfl) l5 c5 k5 (eA hA 14 rfl) l6 c6 k6 (eA hA 16 rfl) l7 c7 k7 (eA hA 18 rfl) l8 c8 k8 (eA hA 20 rfl) l9 c9 k9 (eA hA 22 rfl) l10 c10 k10 (eA hA 24 rfl) l11 c11 k11 (eA hA 26 rfl) l12 c12 k12 (eA hA 28 rfl) l13 c13 k13 (eA hA 30 rfl) l14 c14 k14 (eA hA 32 rfl) l15 c15 k15 (eA hA 34 rfl) l16 c16 k16 (eA hA 36 rfl) l17 c17 k17 (eA hA 38 rfl) l18 c18 k18 (eA hA 40 rfl) l19 c19 k19 (eA hA 42 rfl) l20 c20 k20 (eA hA 44 rfl) l21 c21 k21 (eA hA 46 rfl) l22 c22 k22 (eA hA 48 rfl) l23 c23 k23 (eA hA 50 rfl) l24 c24 k24 (eA hA 52 rfl) l25 c25 k25 (eA hA 54 rfl) l26 c26 k26 (eA hA 56 rfl) l27 c27 k27 (eA hA 58 rfl) l28 c28 k28 (eA hA 60 rfl) l29 c29 k29 (eA hA 62 rfl) l30 c30 k30 (eA hA 64 rfl) l31 c31 k31 (eA hA 66 rfl) l32 c32 k32 (eA hA 68 rfl) l33 c33 k33 (eA hA 70 rfl) l34 c34 k34 (eA hA 72 rfl) l35 c35 k35 (eA hA 74 rfl) l36 c36 k36 (eA hA 76 rfl) l37 c37 k37 (eA hA 78 rfl) l38 c38 k38 (eA hA 80 rfl) l39 c39 k39 (eA hA 82 rfl) l40 c40 k40 (eA hA 84 rfl) l41 c41 k41 (eA hA 86 rfl) (eA hA 87 rfl) (eA hA 88 rfl) (eA hA 89 rfl) (eA hA 90 rfl) (eA hA 91 rfl) (eA hA 92 rfl) (eA hA 93 rfl) (eA hA 94 rfl) (eA hA 95 rfl) (eA hA 96 rfl) (eA hA 97 rfl) (eA hA 98 rfl) (eA hA 99 rfl) (eA hA 100 rfl) xa_LEFT_AS_HANDS (eA hA 102 rfl) (eA hA 103 rfl) (eA hA 104 rfl) (eA hA 105 rfl) o1 (bA hA 107 rfl) o2 (bA hA 109 rfl) (bA hA 110 rfl) (bA hA 111 rfl) (bA hA 112 rfl) (eA hA 113 rfl) (bA hA 114 rfl) (bA hA 115 rfl) (eA hA 116 rfl) (eA hA 117 rfl) (eA hA 118 rfl) (eA hA 119 rfl)
