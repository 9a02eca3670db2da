import PyProof.Rows.All
import Wide.All
import Wide.FinOn
import OpenK.KLine
import OpenK.KMore
import OpenK.KDescr
import OpenK.KOwn
import OpenK.KCls
import KE.KIsAll
import KE.KRevIter
import KE.KDictList
import KE.KIsNot
import KE.KItem
import KE.KDictSum
import KE.KDictOf
import KE.KxBytes
import KE.KFromBytes
import Open.FastRun
import PySem.Challenge.RW_swornhall_k19_whole_no_word_is_broken
noncomputable section
open PySem renaming Value->be,Addr->Q2,Shared->RC,starEach->RE,wpAny->RF,mainGlobals->RJ,model->RK,Stmt->RM,compareOp->RO,Program->RP,bootBuiltins->RQ,eval->RS,Heap->RW,backTo->RZ,World->R3,assignEach->R9,binaryOp->Sh,sysModules->Sl,Around->Sn,behindInMarks->Ss,keywordEach->Sy
open List renaming replicate->RB,range->RD,lookup->RY,mem_or_eq_of_mem_set->R8,map->Sa,map_congr_left->Sd,getElem?_eq_none->Sk,take_succ_cons->Sw,findSome?_cons->Sx
open PySem.W renaming findIn->RG,isFn->RH,nsIn->RL,keepIn->RU,emptyDict->RV,plainGet->R0,instObj->R5,hasDictIn->R6,plainOver->Si,fnOf->Sr
open PySem.Value renaming ref->RI,none->Sb
open PySem.PassesOwn renaming never->RN
open Option renaming isNone->RT,isSome->R_,map_some->Sg
open PySem.Str renaming empty->R4,ofString->Su
open Ne renaming symm->R7
open PyProof.Rows renaming callWith_type1->Se
open PySem.NameKind renaming free->Sf
open PySem.Builtin.Slice renaming slicePlaces->Sj
open Pure renaming pure->So
open Array renaming length_toList->Sv
def rda:="{@eι#rcasesPat.one/1 * #rcasesPatMed/1 ν#rcasesPatLo/11 
~@⟩ #rcasesPat.tuple/111 * #rcasesPatMed/1 * ν:= 
α@μby assumption #assumption/1 * $ ο) %paren/111 ^*1 ζ
β@decide + kernelι#posConfigItem/11 #configItem/1 * #optConfig/1 #decide/11 * $
γ@omega ν#optConfig/1 #omega/11 * $ 
δ@str/1 PyProof.Rows.tacticWalk_at_/11 
ε@* $ #withReducible/11
η@* %app/11 #exact/11 
θ@_ %hole/1 _ %hole/1 
κ@with_reducible refine 
λ@* -}| ( obtain ⟨ &, 
ξ@* ! ; ( focus decide ν#optConfig/1 #decide/11 * $ #focus/11 
π@L2.
ς@ν=> ^%basicFun/1111 %fun/11 * 
σ@#first/11
&@_ #rcasesPat.ignore/1 * #rcasesPatMed/1 ν#rcasesPatLo/11 
-@*1 #obtain/1111 ; subst eι* #subst/11 ; ρ1111 ! 
^@? _ %syntheticHole/11 
}@* $ group/11 
ζ@%app/11 #refine/11 
μ@ιhygieneInfo/1 %hygienicLParen/11 
ο@%byTactic/11 
%@Lean.Parser.Term.
!@$ ) #paren/111
ι@// 
ν@null/ 
ρ@rfl #tacticRfl/1 *
$@#tacticSeq1Indented/1 #tacticSeq/1
*@null/1
#@Lean.Parser.Tactic."
def rdk:="
gs1
first | ( with_reducible first | delta πrJιπIhιπrbιπFXιπFWιπGjι*11111 ν#delta/111 }| refine πrCιfun θθ*111 ςζ}| delta πzHιπF0ιπN4ιπzKιπjjιπjmιπqWιπqXιπJZιπzJιπrHιπGCιπrEιπGBιπIcιπFUιπi_orVιπi_notVιπrLιπzFιπrfιπrDιπFTιπIgιπFSιπqYιπFRιπi_revιπFPιπi_rng2ιπzCιπJYιπFOιπIeιπreιπFNιπFMιπN3ιπHVιπGwιπICιπIZιπzGιπzBιπFZιπrgιπFYιπIBιπzIιπIAιπrGιπI0ιπGvιπi_dpopιπGsιπIyιπGqιπq_ιπzLιπrAιπqZιπrcιπzEιπIiιπBrιπrhιπi_eqBιπi_neBιπrFιπi_neSι*111111111111111111111111111111111111111111111111111111111111111111111 ν#delta/111 }*11 σ ε * ! }| ( ( κπwRι^^*1 ζε * ! ; focus ( first | exact Or.inlι⟨ by γο, by γο*11 ⟩ %anonymousCtor/111 η}| exact Or.inrι⟨ by γο, by γο*11 ⟩ %anonymousCtor/111 η}*1 σ * ! * $ #focus/11 *11 ! }| ( ( κπrpι^^*1 ζε * ! ; focus γ#focus/11 *11 ! }| ( ( κπF_ι^^^*11 ζε * ! ; ( focus γ#focus/11 * ! ; ( focus γ#focus/11 * ! *1111 ! }| ( ( κπi_powι^^^^*111 ζε ξξξ* ! *111111 ! }| ( ( κπBsι( vι:= ^) %namedArgument/11111 ^^*11 ζε * ! ; rotate_left ν#rotateLeft/11 ; focus ρ $ #focus/11 *1111 ! }| κπrMι( αε }| κπN8ι( αε }| κπN7ι( αε }*11111111 σ
sq
with_reducible first | refine πGkιfun θθθθθ*111111111 ςζ}| refine πGmιfun θ*1 ςζ}*1 σ ε
go1
first | walk_at \"sq\" δ}| walk_at \"gs1\" δ}| ( refine πBsι( μby ρ $ ο) %paren/111 ^*1 ζ* ! }*11 σ
gs
repeat ( walk_at \"gs1\" δ* ! * $ #tacticRepeat_/11
go
repeat ( walk_at \"go1\" δ* ! * $ #tacticRepeat_/11
sc
exact ⟨ rflι, rflι, rflι, by β ο, rflι, by β ο, by β ο*111111111111 ⟩ %anonymousCtor/111 #exact/11
q
( ( try κπrMι( αε * $ #tacticTry_/11 * ! ; walk_at \"sq\" δ*11 !
sm
first | exact πslιrflιη}| exact πbrι( μby simp ν#optConfig/1 νννν#simp/111111 * $ ο) %paren/111 η}*1 σ
bd
( intro θθθusιhlι*1111111 #intro/11 ; first | ( obtain eι#rcasesPat.one/1 * #rcasesPatMed/1 * ν:= πqTιhlι* %app/11 λ{*11 ~πqSιhlι* %app/11 λ&, {*1111 ~πqRιhlι* %app/11 λ&, &, {*111111 ~πqPιhlι* %app/11 λ&, &, &, {*11111111 ~πqOιhlι* %app/11 λ&, &, &, &, {*1111111111 ~πzvιhlι* %app/11 * -}*11111 σ *11 !
ln
( intro vsιHιQιEιhι*1111 #intro/11 ; first | ( cases νhι#elimTarget/11 * νν#cases/1111 ; subst_vars #substVars/1 ; ρ1111 ! }| ( obtain ⟨ {, &*11 ~hιλ{, &*1111 ~hιλ&, {, &*111111 ~hιλ&, &, &, &, {, &*111111111111 ~hι* -}*1111 σ *11 !
ob
( refine πfeιfun vGιvKι*1 ςζ; rcases ν/ι#elimTarget/11 * with 1/ιν#rcasesPatLo/11 *1 #rcases/111 <;> ( refine vKι^* ζ; clear vKιvGι*1 #clear/11 *11 ! #«tactic_<;>_»/111 *11 !
ex
( nomatch /ι#«tacticNomatch_,,»/11 ; nofun #tacticNofun/1 *11 !
no
refine ⟨ /ι⟩ %anonymousCtor/111 #refine/11
pc
simp ν#optConfig/1 νonly * [ ννOeι#simpLemma/111 , ννOBι#simpLemma/111 , ννOVι#simpLemma/111 *1111 ] *11 /ι#simp/111111
NO
autoParamι/ιNOι*1 %app/11
NN
autoParamι/ιNNι*1 %app/11
NM
autoParamι/ιNMι*1 %app/11
"
def rdr(x:Array Lean.Syntax)(s:String):Lean.Syntax:=((((rda.splitOn "\n").foldl (fun s a=>match a.splitOn "@" with|[c,d]=>d.intercalate (s.splitOn c)|_=>s) s).splitOn " ").foldl (fun t w=>match w.splitOn "/" with|[k,n]=>.node .none k.toName (t.take n.length).reverse.toArray::t.drop n.length|[k,_,_]=>Lean.mkIdent k.toName::t|[k,_,_,_]=>x[k.length]!::t|_=>Lean.mkAtom w::t) []).head!
def rdm(k:String)(x:Array Lean.Syntax):Lean.MacroM Lean.Syntax:=match rdk.splitOn ("\n"++k++"\n") with|[_,r]=>return rdr x (r.splitOn "\n").head!|_=>throw .unsupportedSyntax
def NO:=rdr #[] "ρ $"
def NN:=rdr #[] "decide ν#optConfig/1 #decide/11 * $"
def NM:=rdr #[] "β"
def lR:=rdr #[] "intro _ %hole/1 * #intro/11 ; ρ11 $"
def oN:=rdr #[] "first | exact . inlι%dotIdent/11 rflιη}| exact . inrι%dotIdent/11 rflιη}| assumption #assumption/1 }*11 σ * $"
def oM:=rdr #[] "walk_at \"bd\" δ* $"
def oK:=rdr #[] "walk_at \"ln\" δ* $"
def zq:=rdr #[] "first | exact Or.inlιrflιη}| exact Or.inrι( μOr.inlιrflι* %app/11 ) %paren/111 η}| exact Or.inrι( μOr.inrιrflι* %app/11 ) %paren/111 η}*11 σ * $"
def Fw:=rdr #[] "with_unfolding_all ρ $ #withUnfoldingAll/11 * $"
def Fv:=rdr #[] "first | exact Or.inlιrflιη}| exact Or.inrιrflιη}*1 σ * $"
local macro_rules(kind:=coeFunNotation)|x=>rdm "NO" #[x[1]]
local macro_rules(kind:=coeSortNotation)|x=>rdm "NN" #[x[1]]
local macro_rules(kind:=«term~~~_»)|x=>rdm "NM" #[x[1]]
set_option Elab.async false
set_option linter.all false
set_option compiler.extract_closed false
set_option maxHeartbeats 0
set_option maxRecDepth 100000
local macro_rules(kind:=Lean.Parser.Tactic.«tacticNomatch_,,»)|x=>rdm "no" #[Lean.mkNullNode (x[1].getArgs++#[Lean.mkAtom ",",rdr #[] "? _ Lean.Parser.Term.syntheticHole/11"])]
abbrev Fg:=PySem.W.Frag
variable {i:Nat}
abbrev aM:=@List.getElem?_map
abbrev aT:=@List.length_map
abbrev bV:=@Option.map_eq_some_iff
abbrev cq:=@List.mem_of_getElem?
abbrev bn:=@List.mem_singleton
abbrev bL:=@List.size_toArray
abbrev bW:=@List.mem_append
abbrev d7:=@List.getElem?_eq_some_iff
abbrev bX:=@List.map_cons
abbrev bU:=@List.mem_map
abbrev Oe:=@List.mem_cons
abbrev Of:=@Bool.and_eq_true
abbrev Og:=@decide_eq_true
abbrev Oh:=@if_neg
abbrev Oi:=@List.mem_cons_self
abbrev Oj:=@decide_eq_true_eq
abbrev Ol:=@if_pos
abbrev Om:=@List.getElem?_eq_getElem
abbrev On:=@Nat.le_refl
abbrev Oo:=@List.mem_cons_of_mem
abbrev Oq:=@decide_eq_false
abbrev Ot:=@of_decide_eq_true
abbrev Ou:=@of_decide_eq_false
abbrev Ov:=@Nat.lt_of_lt_of_le
abbrev Ow:=@Bool.eq_false_iff
abbrev Ox:=@Bool.false_ne_true
abbrev Oy:=@List.take_of_length_le
abbrev Oz:=@List.mem_append_right
abbrev OA:=@List.length_append
abbrev OB:=@List.not_mem_nil
abbrev OC:=@List.length_cons
abbrev OD:=@List.getD_eq_getElem?_getD
abbrev OE:=@absurd
abbrev OF:=@List.map_append
abbrev OG:=@Bool.true_and
abbrev OH:=@Nat.ne_of_lt
abbrev OI:=@Nat.le_trans
abbrev OJ:=@List.all_eq_true
abbrev OK:=@List.mem_append_left
abbrev OL:=@Option.some.inj
abbrev OM:=@List.nodup_cons
abbrev ON:=@List.length_set
abbrev OO:=@List.getElem_mem
abbrev OP:=@List.append_nil
abbrev OQ:=@Int.emod_lt_of_pos
abbrev OR:=@False.elim
abbrev OS:=@Function.comp_apply
abbrev OT:=@List.all_map
abbrev OU:=@Int.emod_nonneg
abbrev OV:=@or_false
abbrev OW:=@List.append_assoc
abbrev OX:=@List.nodup_nil
abbrev OY:=@List.mem_filterMap
abbrev OZ:=@List.map_map
abbrev O0:=@List.length_take
abbrev O1:=@List.getElem?_range
abbrev O2:=@Nat.zero_le
abbrev O3:=@List.nodup_append
abbrev O4:=@Bool.and_true
abbrev O5:=@List.take_add_one
abbrev O6:=@List.map_nil
abbrev O7:=@List.replicate_succ
abbrev O8:=@True.intro
abbrev O9:=@beq_eq_false_iff_ne
abbrev O_:=@List.all_cons
abbrev Pa:=@Bool.eq_iff_iff
abbrev Pb:=@List.filterMap_cons
abbrev Pc:=@List.filter_cons
abbrev Pd:=@beq_iff_eq
abbrev Pe:=@List.lookup_cons
abbrev Pf:=@List.drop_eq_getElem_cons
abbrev Pg:=@Classical.byContradiction
abbrev Ph:=@List.any_cons
abbrev Pi:=@List.range_succ
abbrev Pj:=@List.length_range
abbrev Pk:=@Bool.false_and
abbrev Pl:=@Bool.and_false
abbrev Pm:=@Nat.lt_irrefl
abbrev Pn:=@List.mem_filter
abbrev Po:=@not_or
abbrev Pp:=@List.getElem?_append_left
abbrev Pq:=@List.mem_flatMap
abbrev Pr:=@List.length_drop
abbrev Ps:=@List.all_nil
abbrev Pt:=@Nat.lt_of_le_of_lt
abbrev Pu:=@Nat.le_of_lt
abbrev Pw:=@Int.toNat_natCast
abbrev Px:=@Nat.lt_succ_self
abbrev Py:=@List.eq_nil_of_length_eq_zero
section
open PySem PySem.Spec PySem.Calls PyProof.Rows PySem.W
abbrev Pz:=@wpAny_bind
abbrev PB:=@Heap.get?_push_of_some
abbrev PD:=@Heap.lt_size
abbrev PF:=@wpAny_pure
abbrev PJ:=@Heap.get?_push_size
abbrev PK:=@mg_of
abbrev PL:=@wpAny_mono
abbrev PM:=@PySem.F.plainAttrs_list
abbrev PN:=@PySem.mem_of_lookup
abbrev PP:=@wpAny_truthy_bool
abbrev PQ:=@PySem.W.kia_one
abbrev PR:=@mg_none_of
abbrev PU:=@Heap.get?_update_other
abbrev PV:=@wpAny_holding
abbrev PX:=@wpAny_newObj_type
abbrev PY:=@wpAny_Call_Name_kw
abbrev PZ:=@wpAny_passesOwn
abbrev P0:=@wpAny_execs_nil
abbrev P1:=@tupleKind_room_in1
abbrev P2:=@wpAny_field
abbrev P3:=@codeAny_mono
abbrev P4:=@wpAny_standAt
abbrev P5:=@wpAny_call
end
abbrev Rv:=List Int
abbrev Rw:=List Rv
abbrev Rx:=List Rw
section
open PySem
abbrev Rz:=List Q2
abbrev RA:=List (Q2×Obj)
end
local macro_rules(kind:=Lean.Parser.Tactic.pushCast)|x=>rdm "pc" #[x[5]]
namespace L2
open PySem PySem.Spec PySem.Calls PyProof.Rows PySem.W
abbrev fN:List be:=[.type "ValueError",.type "Exception",.type "BaseException",.type "object"]
def cY (s:RM)(j:Nat):RM:=match s with|.ClassDef _ _ _ body _ _ _ _ _ _ _=>body.getD j (.Pass ⟨0,0,0,0⟩)|_=>.Pass ⟨0,0,0,0⟩
def jV (s:RM):Arguments:=match s with|.FunctionDef _ a _ _ _ _ _ _ _ _=>a|_=>{posonlyargs:=[],args:=[],vararg:=none,kwonlyargs:=[],kw_defaults:=[],kwarg:=none,defaults:=[]}
def gE (s:RM):List RM:=match s with|.FunctionDef _ _ b _ _ _ _ _ _ _=>b|_=>[]
def aI (s:RM):Scope:=match s with|.FunctionDef _ _ _ _ _ _ sc _ _ _=>sc|_=>{kind:=.function,names:=[],isGenerator:=false,isCoroutine:=false}
def Bn (as:Rz)(h:RW):Fg:=as.filterMap λa=>(h.get? a).map λo=>(a,o)
theorem Cb (h:RW):∀ as:Rz,(Bn as h).In h
 |[]=>λa o e=>by cases e|b::as=>λa o e=>by have ih:=Cb h as;unfold Bn at e;rw[Pb]at e;cases hb:h.get? b with
  |none=>rw[hb]at e;exact ih a o e|some ob=>
   rw[hb]at e;simp only[Sg]at e;rw[Pe]at e;by_cases z:(a==b)=true
   ·rw[z]at e;cases e;rw[eq_of_beq z];exact hb
   ·rw[Bool.not_eq_true]at z;rw[z]at e;exact ih a o e
abbrev oR:=Str×Str×Arguments×FuncBody×Scope×Q2×List (Str×Q2)×be×Q2
def vn (name qual:Str)(params:Arguments)(body:List RM)(scope:Scope):oR:=(name,qual,params,.stmts body,scope,RJ,[],.none,builtinsNs)
noncomputable def aW (K:Fg) (a:Q2):Option oR:=match K.lookup a with|some ⟨_,_,.func f,_⟩=>some (f.name,f.qualname,f.params,f.body,f.scope,f.globals,f.closure,f.defaults,f.builtins)|_=>none
noncomputable def aV (K:Fg) (a:Q2) (q:Str):Bool:=match K.lookup a with|some ⟨_,_,.func f,_⟩=>codeIn K f.code q&&keepIn K (.ref a)|_=>false
noncomputable def mq (K:Fg) (C:Q2) (bm:List be) (newId:String):Bool:=match K.lookup C with
 |some ⟨cl,_,.cls c,sl⟩=>cl==.type "type"&&c.mro==.ref C::bm&&!c.hasDel&&(match sl.toList with|[_,_,_,_,some v,_]=>v==.builtin newId|_=>false)|_=>false
noncomputable def nY (K:Fg) (a:Q2) (vs:List be):Bool:=match K.lookup a with|some ⟨cl,_,.seq xs _,_⟩=>cl==.type "tuple"&&xs.toList==vs|_=>false
def rT {β:Type}(as:Rz)(see:Fg->β)(due:β):Hook:=⟨β,λs=>see (Bn as s.heap),λ_=>due,λ_ h=>∃ K:Fg,K.In h/\see K=due,λ_ s e=>⟨_,Cb _ _,e⟩,λ_ _ _ ⟨K,x,e⟩ k=>⟨K,x.keeps k,e⟩⟩
end L2
structure PySem.W.Fast:Prop where(tw2227984125656101624 tw776349364165522067 tw13617877360323317456 tw5758254020302692205 tw5468683970398641113 tw9189716179162967914 tw1158224226600840411 tw4520399945017601302 tw1203091699227254951 tw12393576043108730008 tw5071409327213104339 tw17588980293419685314 tw2119988187960621862 tw9757990172283755266 tw3375130294345989169 tw9402834618535326537 tw15475445918908324254 tw17390676146818160289 tw3207294008836621009 tw14187769559600557478 tw14700692228048973992 tw11628447977796457009 tw1453947821036454356 tw14274455550381049330 tw5818514190638737160 tw9803716027600218627 tw2854394656298396644 tw13166641734014453881 tw3946445453121301220 tw3907139786707128356 tw1501890270132015834 tw11781614848763431078 tw8218749738297200543 tw2478384014077786519 tw12378329846871545509 tw15809689018074909089 tw11901783864967775805 tw5733137043703141921 tw10973082363556184624 tw11237207263233303482 tw3057968301776705097 tw1528974213546909862 tw8001236301492002613 tw3638609893840584845 tw7448131105883291752 tw10528521324134002900 tw2423808827965179931 tw7314672115229044559 tw5626488934185150298 tw6627828821142428644 tw6382072518423607576 tw17143503498333419248 tw17845904238751924891 tw4302682432660134278 tw2296826284706823762 tw14455768133836323508 tw9920720376582691421 tw4834061062411471262 tw6853004536083554040 tw17631356602047266418 tw14882095359383255493 tw11986602838936700409 tw3267438619775215351 tw13748603090862555704 tw12075232267010224163 tw7113916175548437175 tw4315970878032522838 tw12729766107917119715 tw14804157161003686436 tw10737716159506275577 tw18167462807979822202 tw9786541466400355485 tw9922002949234359481 tw4038022073879841776 tw15552643845826995261 tw13740463315856269858 tw13162553248777173363 tw7495431947421870827 tw15385065696847440817 tw17317314317583297946 tw15518533345262847581 tw2406409665450338604 tw1868119740738082887 tw5813098811195596248 tw3763335494035507030 tw15788157961906431109 tw12181847484798323517 tw1556646654837954784 tw16550062927655350319 tw6456168112087996519 tw2317485501772729089 tw14895454437748133791 tw8791792222950135499 tw8219440040210119668 tw7971731842362180976 tw789080612252549700 tw6871469746655621039 tw6732807035167109302 tw5886051152311316487 tw5732647685230717318 tw5434403450603537490 tw2812792260283677268 tw2810759311703046582 tw18216695835049891669 tw15588467174240965196 tw14507968082258715952 tw11858509629187839726 tw11270184139107496568 tw5853706256134185752 tw6410911297959854733 tw15701669833617119100 tw9238852385463369168 tw14676169029540171421 tw2469379461132247607 tw15069149259671422924 tw8611639002175211150 tw14597405877489566077 tw14260923146526417301 tw14093097685732508499 tw6895661127780879578 tw3707485911645256314 tw15035821029307322239 tw14263321168418123547 tw16450132573351550924 tw10601905233560485865 tw13612909744033899158 tw14402334913921851957 tw3545055367808054655 tw13361744319697843347 tw1617113666555438304 tw12908452539888091773 tw16398478764811367130 tw8852390569794037915 tw6336047970916245152 tw5032816997633287126 tw2955000544359128902 tw10154562993617615620 tw6294128292207448285 tw3806325470553123198 tw9601655570204534176 tw9092152082947858756 tw8775338198938419363 tw7316383060224439090 tw2437835622340140590 tw2283232529651111344 tw17894826114218494946 tw17186465887529179777 tw15735878227506887168 tw15549693829593496278 tw14502940171875953668 tw12565096605033806853 tw12254785863149163460 tw11366267904161977639 tw11541887729659732973 tw863048132045103992 tw2085077740877808251 tw15509514433336414011 tw14916808802319746875 tw14097787929518899933 tw4142295935879911124 tw9737323179147461689 tw8671384242459362050 tw6196264282227201472 tw6117253032972749165 tw5700939764456650953 tw5575155809038465290 tw4780500322686225989 tw3334156355482157451 tw2971485949812699250 tw2008530286991559504 tw1968575949449114954 tw17886142126310572805 tw17377687849828745891 tw1708181892194002669 tw16702782142713797351 tw15565208565424141060 tw15390554836719920968 tw14467209578495556150 tw13616252663862834230 tw12741517193238094097 tw10450668326981467208 tw10367942834730556787 tw2568820999043859162 tw14857770610472888124 tw15638163933277590075 tw6000189917309389844 tw17828045059453947935 tw1710703405461425722 tw3357704119353047925 tw11488667565825351007 tw8930677244060984189 tw7556342693034439870 tw5366509743526462994 tw17297716733128724065 tw1471851305584319275 tw2528537723467112310 tw16741505297429020631 tw4922020525901118822 tw9263523101643822660 tw17872668527298484161 tw12677198920792953752 tw12591267655990465774 tw1433174580420671387 tw7150003686560778393 tw17588690806756591396 tw16401989973584482884 tw12438121898770449925 tw17371483392337748806 tw3332415100794225681 tw9332695434990547213 tw6675161575450839851 tw14546887015810860273 tw16143520765007841342 tw14379583928619359942 tw11148686898449507963 tw7606574109865134180 tw757829571940158218 tw542302301152888692 tw4339886429918376946 tw17937062950892400191 tw17398867020394671697 tw1564441948085930549 tw13646649804756232658 tw1166278373762124432 tw11561853279602629430 tw6198696777766335852 tw2695289158487249948 tw11371723816462561726 tw7186381750328617150 tw8909597889432123387 tw8704722270541374708 tw5939230540158153746 tw3726050411033772260 tw2815487659040135109 tw2395439379914149820 tw12909851489617227795 tw6994554550273413320 tw5004789164679001768 tw13239550108147665881 tw12808484924819143285 tw8140051516273090915 tw599356719784047722 tw15772674656166870751 tw1806809983085531296 tw9595066042504875064 tw7423960359639552213 tw9466694891499267383 tw924039554020164204 tw9138755066048905750 tw8371142269669372797 tw7680357051477093933 tw7060105556783577623 tw6519611778531389034 tw6432642818353439509 tw5577926688863566976 tw5094403551208970910 tw30620381344297788 tw2735676544050842155 tw2690662241547976307 tw2640313473230272738 tw2219430595782092741 tw2183749079440045557 tw17823096927019644618 tw17328362377110283058 tw15326011587557009877 tw15248536040126955423 tw14894469256195898080 tw13286278650413064779 tw12963703372179933523 tw12778035634261567066 tw11876120867229778958 tw11719800610072220568 tw11042784233322232701 tw760103420146901606 tw4701935607918886097 tw16723235324023844333 tw7604959349602357769 tw9082146233639299267 tw15659028330971972294 tw10589825353304651441 tw15005925169078544968 tw17308647610846288589 tw6465285857260575533 tw2663609494853923480 tw5985967723182869756 tw11079204090950013592 tw1374809917478469207 tw10505980155719365147 tw14781655920573175815 tw12946735986404654786 tw10232057847795215701 tw2415903204604949519 tw4299794727963092840 tw893481153305761618 tw8902749125694028012 tw6786523512285898650 tw18396002336144212636 tw1031358704201277654 tw13783770774228967679 tw2784388831511854355 tw2789851222210532372 tw12947189612364120706 tw12481454144268616839 tw6927626566630375569 tw11543856866262202935 tw6038521711848926765 tw11175207438848458042 tw10873085397695170842 tw13949145522624913857 tw396011068261785095 tw6588122165845217832 tw748972961930485862 tw2023904932073526619 tw1926998764533974727 tw17448880686302534179 tw14921218194397121595 tw16713863490811218604 tw6231448573770979701 tw11660851521927572667 tw17797836637938422834 tw938523927762961284 tw18234193767635805413 tw10187792486948455643 tw16236995564371454715 tw13487430838959566384 tw11121232978505732842 tw13719496389049126041 tw4698756496299628082 tw16141566392607493868 tw14178626638244866748 tw10524249401664919354 tw6868696048434254363 tw9223765146562797188 tw11876480860073692952 tw18380826336873559882 tw11658224591569486068 tw329508519435867046 tw12929363156483402219 tw2071112412167765751 tw16306841035749627236 tw13102914231724794721 tw5583485626261203204 tw7848313449169286587 tw15207365935413513888 tw979254094154025218 tw6664599641715855305 tw13487932537423079816 tw1946892190038713595 tw3966343253528306731 tw2883941612353418178 tw6937699425902482377 tw2437343309668650684 tw1686599214481486998 tw6416119134027538850 tw4710292314337030699 tw16716801356065816184 tw6655467509209256943 tw14641161113532235899 tw7392939386393207306 tw5847037022757839631 tw17218560794717989255 tw10757728999917467875 tw8510825624668661988 tw9747341206631155759 tw14250846946362348037 tw13858565844180493397 tw7411531364297945548 tw10477622031935306027 tw7553359120723418029 tw6926373838451514256 tw444241443635407517 tw14362980349688247394 tw10383996297517529548 tw10472561464402253076 tw5453134820846073553 tw11471688491058568711 tw2080713460357478287 tw12311412171024378029 tw12643357574092576763 tw4565661123227790447 tw2057595749848898194 tw10353217218739120216 tw8305147663465460923 tw17747542301994802445 tw12431440547656363291 tw8467895981334741075 tw7788188688084964793 tw5706446497242804296 tw16893030158355820972 tw12465226396015118738 tw3134419472819185797 tw16064087626573034985 tw3487987295010471491 tw13630199154577784847 tw16606155114440303221 tw1365346803644466755 tw7325128880022495021 tw1616452677379155298 tw6923472578590925783 tw18257691450906983112 tw2135537335910450892 tw3567770506789104570 tw14386042097024359464 tw10732654290800107484 tw1245209614924773917 tw18274909785070186292 tw4527838760799263128 tw2127270380897381128 tw15324314644297272476 tw5589106557950684696 tw17916638016415605879 tw930011049944311131 tw8957795151604807644 tw11844312174462403515 tw3487354242808163341 tw12617216031580934907 tw5805084399182061494 tw18198628462061219515 tw14454533267740878595 tw4618027699324231899 tw17005420557215443910 tw16865346334690447421 tw12207756234900359402 tw15783357282123260061 tw17388076246622662022 tw12922872514681684767 tw14621827991721097410 tw10826851630535980646 tw5066003866274012505 tw1365459636865698933 tw4163326049892073203 tw8334601562007412917 tw2763291280307325701 tw17424238112563142733 tw14660277030841200752 tw5389756084973700547 tw10908316181426829240 tw16581209892432260326 tw14121387749447875885 tw10783244680525539374 tw17745038875957651950 tw9230821676715163869 tw5782305628854397413 tw8122322465435521766 tw17112812144973609753 tw14231932478241910943 tw3397464266153594488 tw2379978887111306939 tw2995410539607079663 tw2644654330789338961 tw14944356422145470893 tw17570251607388432096 tw14003462315232846449 tw1211042208004800155 tw15642501625756080639 tw5508635845654909805 tw17158186514945969978 tw9156983060839668767 tw4204371165191681711 tw10028644335345680296 tw1012260356806845585 tw7928822726051964148 tw13069486371493702364 tw17888288211064653219 tw13094081276889132484 tw11368481724707584865 tw2769663661197980400 tw11790268132490045802 tw5090384961005919302 tw2019197041586048441 tw12444927658839264365 tw7448121960304002186 tw1095677501268996205 tw2109705928180336286 tw11261301862842112956 tw15423691279943392240 tw17200290638297471978 tw17052598473885787865 tw6849680719634168706 tw17051288623667593307 tw12170391119553743526 tw17308005459834190068 tw1602751742620767112 tw11754718060849300893 tw16041694019650214790 tw1440297418573482706 tw13285861245074961843 tw10469848158992915037 tw15986745473992777191 tw10313586065063634623 tw16853969142517134599 tw4009484284215342217 tw6046679252226414306 tw2104151606025029433 tw7796422184544569910 tw1226130007227455878 tw9642142379677642377 tw16677360671953739991 tw15841859713134048391 tw4964582865100277381 tw17627859771100259479 tw12103239930204296966 tw17961788546582873393 tw4946142030688768607 tw2001136545184258963 tw7777679807550240561 tw2546388430138092906 tw2525847743185583106 tw17686820982749072071 tw11825583093529863222 tw15490206819062575327 tw16717386670617192233 tw16809301978982061218 tw15349612999903227714 tw1043461095383418649 tw1918452838483297557 tw9944689067079024480 tw481339658746309029 tw5121842295121546071 tw11778437544679202173 tw1938154795580533835 tw8751299449353246378 tw3379789175393672811 tw3521297057660150113 tw16071283818364078215 tw7142304896826009124 tw2943848320222287562 tw12184234744286334747 tw9388363028151523122 tw5246345013542730443 tw7108247808773767476 tw3445699472403728478 tw4772707149150882929 tw16575875996344014069 tw6679090402821654448 tw5205663266528389763 tw2541030596104002046 tw8631386559755551581 tw8251461224416289580 tw1873703209551775944 tw15701315210105119253 tw5799919702263306858 tw17499764633533104486 tw15869816628069888323 tw10801188163644105974 tw4387630262028561307 tw4060084726716684953 tw11957724561758787236 tw1483515619171305244 tw16877520496163481002 tw4615290373043958370 tw4152662677362188072 tw8933666250353359436 tw4715954425686633671 tw6319699749114562117 tw9185021377191734742 tw8225621996996104003 tw11373908841927729376 tw12782733073857229264 tw12577021102239361286 tw7434371350131730973 tw11149186904505482663 tw7654210008147175343 tw5060063249531579529 tw43617962359655230 tw3649252162674379982:True)
namespace My
open PySem L2 PyProof.Rows
noncomputable def top (i:Nat):RM:=PySem.Challenge.pw_swornhall_k19_whole_no_word_is_broken.main.body.getD i (.Pass ⟨0,0,0,0⟩)
abbrev wD:RM:=top 4
abbrev wC:RM:=top 5
abbrev vU:RM:=top 6
abbrev xg:RM:=top 7
abbrev xf:RM:=top 8
abbrev zd:RM:=cY (top 19) 0
abbrev yU:RM:=top 20
abbrev yt:RM:=top 21
abbrev yT:RM:=top 22
abbrev ux:RM:=top 23
abbrev wB:RM:=top 24
abbrev yD:RM:=top 25
abbrev yr:RM:=top 26
abbrev yq:RM:=top 27
abbrev yp:RM:=top 28
abbrev yC:RM:=top 29
abbrev yB:RM:=top 30
abbrev yo:RM:=top 31
abbrev yA:RM:=top 32
abbrev yY:RM:=top 33
abbrev yz:RM:=top 34
abbrev yS:RM:=top 35
abbrev xr:RM:=top 36
abbrev xc:RM:=top 37
abbrev xb:RM:=top 50
abbrev yR:RM:=top 51
abbrev yn:RM:=top 52
abbrev ym:RM:=top 53
abbrev yl:RM:=top 54
abbrev yk:RM:=top 55
abbrev yj:RM:=top 56
abbrev ye:RM:=top 57
abbrev yy:RM:=top 58
abbrev yx:RM:=top 59
abbrev xM:RM:=top 60
abbrev wA:RM:=top 61
abbrev w_:RM:=top 62
abbrev y3:RM:=top 63
abbrev zi:RM:=cY (top 65) 0
abbrev xL:RM:=cY (top 65) 1
abbrev zh:RM:=cY (top 65) 3
abbrev yi:RM:=cY (top 65) 4
abbrev yd:RM:=cY (top 65) 6
abbrev yc:RM:=cY (top 65) 7
abbrev yw:RM:=cY (top 65) 8
abbrev yv:RM:=cY (top 65) 9
abbrev yX:RM:=cY (top 65) 10
abbrev zc:RM:=cY (top 65) 11
abbrev zb:RM:=cY (top 65) 12
abbrev yQ:RM:=cY (top 65) 13
abbrev zm:RM:=cY (top 65) 14
abbrev yb:RM:=top 66
abbrev y_:RM:=cY (top 69) 0
abbrev zg:RM:=cY (top 69) 1
abbrev yP:RM:=cY (top 70) 0
abbrev w9:RM:=cY (top 70) 1
abbrev yu:RM:=cY (top 70) 3
abbrev xK:RM:=cY (top 70) 4
abbrev xq:RM:=cY (top 70) 5
abbrev xJ:RM:=cY (top 70) 6
abbrev xI:RM:=cY (top 70) 7
abbrev xH:RM:=cY (top 70) 8
abbrev ya:RM:=cY (top 70) 9
abbrev yh:RM:=cY (top 70) 10
abbrev zl:RM:=cY (top 70) 11
abbrev y8:RM:=cY (top 70) 12
abbrev x_:RM:=cY (top 70) 13
abbrev xG:RM:=cY (top 70) 14
abbrev yO:RM:=cY (top 70) 15
abbrev xZ:RM:=cY (top 70) 16
abbrev yg:RM:=top 71
abbrev zf:RM:=top 72
abbrev xY:RM:=top 74
abbrev wz:RM:=top 75
abbrev xF:RM:=top 76
abbrev w6:RM:=top 77
abbrev xX:RM:=top 78
abbrev wZ:RM:=top 79
abbrev yN:RM:=top 80
abbrev yM:RM:=top 81
abbrev yG:RM:=top 82
abbrev yF:RM:=top 83
abbrev yL:RM:=top 84
abbrev xW:RM:=top 85
abbrev xV:RM:=top 86
abbrev xE:RM:=top 87
abbrev xD:RM:=top 88
abbrev wY:RM:=top 89
abbrev md:RM:=top 90
section
open PySem PySem.Spec PySem.Calls PyProof.Rows PySem.W L2
def GL (p:RP)(ks:List Nat):RP:={p with main:={p.main with body:=ks.filterMap λi=>p.main.body[i]?}}
noncomputable def Qv:RP:=GL PySem.Challenge.rw_swornhall_k19_whole_no_word_is_broken.row.toRowW.prog [0,2,3,4,5,6,7,8,10,11,12,13,14,15,16,17,18,19,20,21,22,23,24,25,26,27,28,29,30,31,32,33,34,35,36,37,39,40,41,42,43,45,46,47,48,49,50,51,52,53,54,55,56,57,58,59,60,61,62,63,65,66,68,69,70,71,72,74,75,76,77,78,79,80,81,82,83,84,85,86,87,88,89,90]
abbrev nI (K:Fg)(s:Str)(n:Q2):Bool:=RL K RJ s==some (some (.ref n))
abbrev fI (K:Fg)(c:Q2)(s:Str)(n:Q2):Bool:=RG K (.ref c) s==some (some (.ref n))
abbrev gS (n q:Str)(d:RM):Option L2.oR:=some (L2.vn n q (jV d) (gE d) (aI d))
noncomputable def zp (K:Fg):List Bool:=[nI K "Craft" 70,
 nI K "HallError" 192,
 nI K "BadSheet" 205,
 nI K "NoCraft" 217,
 nI K "Unmet" 229,
 nI K "Unfit" 241,
 nI K "Hall" 443,
 nI K "Frame" 478,
 nI K "Run" 609,
 nI K "copied_lines" 79,
 L2.aV K 79 "copied_lines",
 nI K "copied_deed" 84,
 L2.aV K 84 "copied_deed",
 fI K 70 "__init__" 67,
 RH K (.ref 67),
 L2.aV K 67 "Craft.__init__",
 nI K "worth" 28,
 L2.aV K 28 "worth",
 nI K "holds" 35,
 L2.aV K 35 "holds",
 nI K "bare" 40,
 L2.aV K 40 "bare",
 nI K "summed" 45,
 L2.aV K 45 "summed",
 nI K "turned" 52,
 L2.aV K 52 "turned",
 nI K "copied_craft" 91,
 L2.aV K 91 "copied_craft",
 nI K "called_by" 96,
 L2.aV K 96 "called_by",
 nI K "between" 177,
 L2.aV K 177 "between",
 nI K "small_enough" 170,
 L2.aV K 170 "small_enough",
 nI K "line_right" 130,
 L2.aV K 130 "line_right",
 nI K "lines_right" 125,
 L2.aV K 125 "lines_right",
 nI K "oath_right" 110,
 L2.aV K 110 "oath_right",
 nI K "hand_right" 163,
 L2.aV K 163 "hand_right",
 nI K "two_hands_right" 156,
 L2.aV K 156 "two_hands_right",
 nI K "call_right" 151,
 L2.aV K 151 "call_right",
 nI K "range_right" 144,
 L2.aV K 144 "range_right",
 nI K "deed_right" 137,
 L2.aV K 137 "deed_right",
 nI K "deeds_right" 115,
 L2.aV K 115 "deeds_right",
 nI K "notes_right" 120,
 L2.aV K 120 "notes_right",
 nI K "right" 103,
 L2.aV K 103 "right",
 nI K "due_at" 182,
 L2.aV K 182 "due_at",
 nI K "eight_with" 308,
 L2.aV K 308 "eight_with",
 nI K "each_from" 298,
 L2.aV K 298 "each_from",
 nI K "all_turned" 303,
 L2.aV K 303 "all_turned",
 nI K "constant" 315,
 L2.aV K 315 "constant",
 nI K "first_duties" 258,
 L2.aV K 258 "first_duties",
 nI K "call_duties" 293,
 L2.aV K 293 "call_duties",
 nI K "part_duties" 272,
 L2.aV K 272 "part_duties",
 nI K "draw_duties" 279,
 L2.aV K 279 "draw_duties",
 nI K "turn_duties" 286,
 L2.aV K 286 "turn_duties",
 nI K "deed_duties" 265,
 L2.aV K 265 "deed_duties",
 nI K "duties" 251,
 L2.aV K 251 "duties",
 nI K "shows" 320,
 L2.aV K 320 "shows",
 nI K "noughts_and_ones" 332,
 L2.aV K 332 "noughts_and_ones",
 nI K "sought" 327,
 L2.aV K 327 "sought",
 fI K 443 "__init__" 346,
 RH K (.ref 346),
 L2.aV K 346 "Hall.__init__",
 fI K 443 "release" 433,
 RH K (.ref 433),
 L2.aV K 433 "Hall.release",
 fI K 443 "called_at" 426,
 RH K (.ref 426),
 L2.aV K 426 "Hall.called_at",
 fI K 443 "release_callers" 440,
 RH K (.ref 440),
 L2.aV K 440 "Hall.release_callers",
 nI K "same_oath" 454,
 L2.aV K 454 "same_oath",
 fI K 443 "lay" 353,
 RH K (.ref 353),
 L2.aV K 353 "Hall.lay",
 fI K 443 "standing" 367,
 RH K (.ref 367),
 L2.aV K 367 "Hall.standing",
 fI K 443 "crafts" 374,
 RH K (.ref 374),
 L2.aV K 374 "Hall.crafts",
 fI K 443 "must_stand" 412,
 RH K (.ref 412),
 L2.aV K 412 "Hall.must_stand",
 fI K 443 "duties_at" 419,
 RH K (.ref 419),
 L2.aV K 419 "Hall.duties_at",
 fI K 443 "seek" 386,
 RH K (.ref 386),
 L2.aV K 386 "Hall.seek",
 fI K 443 "held" 393,
 RH K (.ref 393),
 L2.aV K 393 "Hall.held",
 fI K 443 "reach" 400,
 RH K (.ref 400),
 L2.aV K 400 "Hall.reach",
 fI K 443 "sworn" 405,
 RH K (.ref 405),
 L2.aV K 405 "Hall.sworn",
 fI K 478 "__init__" 468,
 RH K (.ref 468),
 L2.aV K 468 "Frame.__init__",
 fI K 478 "numbers" 475,
 RH K (.ref 475),
 L2.aV K 475 "Frame.numbers",
 fI K 609 "craft_of" 599,
 RH K (.ref 599),
 L2.aV K 599 "Run.craft_of",
 fI K 609 "is_behind_last_deed" 571,
 RH K (.ref 571),
 L2.aV K 571 "Run.is_behind_last_deed",
 nI K "first_unmet" 620,
 L2.aV K 620 "first_unmet",
 fI K 609 "meets" 606,
 RH K (.ref 606),
 L2.aV K 606 "Run.meets",
 fI K 609 "take" 592,
 RH K (.ref 592),
 L2.aV K 592 "Run.take",
 fI K 609 "leave" 585,
 RH K (.ref 585),
 L2.aV K 585 "Run.leave",
 fI K 609 "meet_notes" 578]
noncomputable def zo (K:Fg):List Bool:=[RH K (.ref 578),
 L2.aV K 578 "Run.meet_notes",
 fI K 609 "come_to" 564,
 RH K (.ref 564),
 L2.aV K 564 "Run.come_to",
 fI K 609 "begin" 557,
 RH K (.ref 557),
 L2.aV K 557 "Run.begin",
 nI K "asked_numbers" 627,
 L2.aV K 627 "asked_numbers",
 fI K 609 "__init__" 496,
 RH K (.ref 496),
 L2.aV K 496 "Run.__init__",
 fI K 609 "put" 529,
 RH K (.ref 529),
 L2.aV K 529 "Run.put",
 fI K 609 "draw" 536,
 RH K (.ref 536),
 L2.aV K 536 "Run.draw",
 fI K 609 "hold" 543,
 RH K (.ref 543),
 L2.aV K 543 "Run.hold",
 fI K 609 "call" 550,
 RH K (.ref 550),
 L2.aV K 550 "Run.call",
 fI K 609 "step" 522,
 RH K (.ref 522),
 L2.aV K 522 "Run.step",
 fI K 609 "go" 503,
 RH K (.ref 503),
 L2.aV K 503 "Run.go",
 fI K 609 "frames" 515,
 RH K (.ref 515),
 L2.aV K 515 "Run.frames",
 nI K "_law_mix" 641,
 L2.aV K 641 "_law_mix",
 nI K "_law_cell_at" 634,
 L2.aV K 634 "_law_cell_at",
 nI K "_law_number" 648,
 L2.aV K 648 "_law_number",
 nI K "_law_free" 663,
 L2.aV K 663 "_law_free",
 nI K "_law_other_deed" 670,
 L2.aV K 670 "_law_other_deed",
 nI K "_law_second_deed" 684,
 L2.aV K 684 "_law_second_deed",
 nI K "_law_first_deed" 677,
 L2.aV K 677 "_law_first_deed",
 nI K "_law_bare" 653,
 L2.aV K 653 "_law_bare",
 nI K "_law_sworn_parts" 689,
 L2.aV K 689 "_law_sworn_parts",
 nI K "_law_hall_parts" 694,
 L2.aV K 694 "_law_hall_parts",
 nI K "_law_line_by" 658,
 L2.aV K 658 "_law_line_by",
 nI K "_law_deed_by" 701,
 L2.aV K 701 "_law_deed_by",
 nI K "_law_changed" 706,
 L2.aV K 706 "_law_changed",
 nI K "_law_run_by" 720,
 L2.aV K 720 "_law_run_by",
 nI K "_law_sought" 713,
 L2.aV K 713 "_law_sought",
 nI K "_law_true" 727,
 L2.aV K 727 "_law_true",
 nI K "law" 732,
 L2.aV K 732 "law",
 RL K RJ "all"==some none,
 RL K RJ "any"==some none,
 RL K RJ "enumerate"==some none,
 RL K RJ "int"==some none,
 RL K RJ "isinstance"==some none,
 RL K RJ "len"==some none,
 RL K RJ "list"==some none,
 RL K RJ "max"==some none,
 RL K RJ "min"==some none,
 RL K RJ "range"==some none,
 RL K RJ "sorted"==some none,
 RL K RJ "tuple"==some none,
 RL K RJ "zip"==some none,
 RL K RJ "NUMBERS"==some (some (.int 9 196)),
 RL K RJ "FACTORS"==some (some (.int 8 198)),
 nI K "HAND_SPOTS" 53,
 L2.nY K 53 [(.int 1 242),(.int 2 243),(.int 3 244),(.int 4 245)],
 nI K "LEFT_SPOTS" 54,
 L2.nY K 54 [(.int 7 247),(.int 8 248)],
 nI K "LEFT_AS_HANDS" 55,
 L2.nY K 55 [(.int 0 250),(.int 1 251),(.int 2 252),(.int 3 253),(.int 4 254),(.int 5 255),(.int 0 256),(.int 1 257)],
 RL K RJ "MOST_LINES"==some (some (.int 2 259)),
 RL K RJ "MOST_DEEDS"==some (some (.int 8 261)),
 RL K RJ "LAST_HAND"==some (some (.int 3 263)),
 RL K RJ "LAST_NUMBER"==some (some (.int 99 265)),
 RL K RJ "GREATEST_BY"==some (some (.int 1000 267)),
 RL K RJ "GREATEST"==some (some (.int 1000000000 269)),
 RL K RJ "ASKED_0"==some (some (.int 4 513)),
 RL K RJ "ASKED_1"==some (some (.int 5 515)),
 RL K RJ "NEW_0"==some (some (.int 6 517)),
 RL K RJ "NEW_1"==some (some (.int 7 519)),
 nI K "WHOLES" 244,
 L2.nY K 244 [(.int 1 521),(.int 2 522),(.int 3 523),(.int 4 524)],
 RL K RJ "MOST_FRAMES"==some (some (.int 20 810)),
 L2.mq K 192 fN "ValueError.__new__",
 PySem.W.excIn K 192 fN "ValueError.__new__",
 L2.mq K 205 (.ref 192::fN) "ValueError.__new__",
 PySem.W.excIn K 205 fN "ValueError.__new__",
 L2.mq K 217 (.ref 192::fN) "ValueError.__new__",
 PySem.W.excIn K 217 fN "ValueError.__new__",
 L2.mq K 229 (.ref 192::fN) "ValueError.__new__",
 PySem.W.excIn K 229 fN "ValueError.__new__",
 L2.mq K 241 (.ref 192::fN) "ValueError.__new__",
 PySem.W.excIn K 241 fN "ValueError.__new__",
 R0 K 70 R4,
 R6 K 70,
 Si K 70,
 RG K (.ref 70) "__setattr__"==some (some (.builtin "object.__setattr__")),
 PySem.W.makesIn K 70,
 RU K (.ref 70),
 RG K (.ref 70) "needs"==some none,
 RG K (.ref 70) "leaves"==some none,
 RG K (.ref 70) "deeds"==some none,
 RG K (.ref 70) "notes"==some none,
 R0 K 443 R4,
 R6 K 443,
 Si K 443,
 RG K (.ref 443) "__setattr__"==some (some (.builtin "object.__setattr__")),
 PySem.W.makesIn K 443,
 RU K (.ref 443),
 RG K (.ref 443) "laid"==some none,
 RG K (.ref 443) "vouched"==some none,
 R0 K 478 R4,
 R6 K 478,
 Si K 478,
 RG K (.ref 478) "__setattr__"==some (some (.builtin "object.__setattr__")),
 PySem.W.makesIn K 478,
 RU K (.ref 478),
 RG K (.ref 478) "number"==some none,
 RG K (.ref 478) "place"==some none,
 RG K (.ref 478) "hands"==some none,
 RG K (.ref 478) "asked"==some none,
 R0 K 609 R4,
 R6 K 609,
 Si K 609,
 RG K (.ref 609) "__setattr__"==some (some (.builtin "object.__setattr__")),
 PySem.W.makesIn K 609,
 RU K (.ref 609),
 RG K (.ref 609) "known"==some none,
 RG K (.ref 609) "inputs_left"==some none,
 RG K (.ref 609) "stack"==some none,
 RG K (.ref 609) "steps_done"==some none,
 RG K (.ref 609) "ending"==some none]
def e8 (K:Fg):List Bool:=zp K++zo K
def gI (K:Fg):List (Option L2.oR):=[L2.aW K 79,L2.aW K 84,L2.aW K 67,L2.aW K 28,L2.aW K 35,L2.aW K 40,L2.aW K 45,L2.aW K 52,L2.aW K 91,L2.aW K 96,L2.aW K 177,L2.aW K 170,L2.aW K 130,L2.aW K 125,L2.aW K 110,L2.aW K 163,L2.aW K 156,L2.aW K 151,L2.aW K 144,L2.aW K 137,L2.aW K 115,L2.aW K 120,L2.aW K 103,L2.aW K 182,L2.aW K 308,L2.aW K 298,L2.aW K 303,L2.aW K 315,L2.aW K 258,L2.aW K 293,L2.aW K 272,L2.aW K 279,L2.aW K 286,L2.aW K 265,L2.aW K 251,L2.aW K 320,L2.aW K 332,L2.aW K 327,L2.aW K 346,L2.aW K 433,L2.aW K 426,L2.aW K 440,L2.aW K 454,L2.aW K 353,L2.aW K 367,L2.aW K 374,L2.aW K 412,L2.aW K 419,L2.aW K 386,L2.aW K 393,L2.aW K 400,L2.aW K 405,L2.aW K 468,L2.aW K 475,L2.aW K 599,L2.aW K 571,L2.aW K 620,L2.aW K 606,L2.aW K 592,L2.aW K 585,L2.aW K 578,L2.aW K 564,L2.aW K 557,L2.aW K 627,L2.aW K 496,L2.aW K 529,L2.aW K 536,L2.aW K 543,L2.aW K 550,L2.aW K 522,L2.aW K 503,L2.aW K 515,L2.aW K 641,L2.aW K 634,L2.aW K 648,L2.aW K 663,L2.aW K 670,L2.aW K 684,L2.aW K 677,L2.aW K 653,L2.aW K 689,L2.aW K 694,L2.aW K 658,L2.aW K 701,L2.aW K 706,L2.aW K 720,L2.aW K 713,L2.aW K 727,L2.aW K 732]
def gH:List (Option L2.oR):=[gS "copied_lines" "copied_lines" yU,
 gS "copied_deed" "copied_deed" yt,
 gS "__init__" "Craft.__init__" zd,
 gS "worth" "worth" wD,
 gS "holds" "holds" wC,
 gS "bare" "bare" vU,
 gS "summed" "summed" xg,
 gS "turned" "turned" xf,
 gS "copied_craft" "copied_craft" yT,
 gS "called_by" "called_by" ux,
 gS "between" "between" xr,
 gS "small_enough" "small_enough" yS,
 gS "line_right" "line_right" yC,
 gS "lines_right" "lines_right" yp,
 gS "oath_right" "oath_right" yD,
 gS "hand_right" "hand_right" yz,
 gS "two_hands_right" "two_hands_right" yY,
 gS "call_right" "call_right" yA,
 gS "range_right" "range_right" yo,
 gS "deed_right" "deed_right" yB,
 gS "deeds_right" "deeds_right" yr,
 gS "notes_right" "notes_right" yq,
 gS "right" "right" wB,
 gS "due_at" "due_at" xc,
 gS "eight_with" "eight_with" yx,
 gS "each_from" "each_from" ye,
 gS "all_turned" "all_turned" yy,
 gS "constant" "constant" xM,
 gS "first_duties" "first_duties" yR,
 gS "call_duties" "call_duties" yj,
 gS "part_duties" "part_duties" ym,
 gS "draw_duties" "draw_duties" yl,
 gS "turn_duties" "turn_duties" yk,
 gS "deed_duties" "deed_duties" yn,
 gS "duties" "duties" xb,
 gS "shows" "shows" wA,
 gS "noughts_and_ones" "noughts_and_ones" y3,
 gS "sought" "sought" w_,
 gS "__init__" "Hall.__init__" zi,
 gS "release" "Hall.release" yQ,
 gS "called_at" "Hall.called_at" zb,
 gS "release_callers" "Hall.release_callers" zm,
 gS "same_oath" "same_oath" yb,
 gS "lay" "Hall.lay" xL,
 gS "standing" "Hall.standing" zh,
 gS "crafts" "Hall.crafts" yi,
 gS "must_stand" "Hall.must_stand" yX,
 gS "duties_at" "Hall.duties_at" zc,
 gS "seek" "Hall.seek" yd,
 gS "held" "Hall.held" yc,
 gS "reach" "Hall.reach" yw,
 gS "sworn" "Hall.sworn" yv,
 gS "__init__" "Frame.__init__" y_,
 gS "numbers" "Frame.numbers" zg,
 gS "craft_of" "Run.craft_of" yO,
 gS "is_behind_last_deed" "Run.is_behind_last_deed" zl,
 gS "first_unmet" "first_unmet" yg,
 gS "meets" "Run.meets" xZ,
 gS "take" "Run.take" xG,
 gS "leave" "Run.leave" x_,
 gS "meet_notes" "Run.meet_notes" y8,
 gS "come_to" "Run.come_to" yh,
 gS "begin" "Run.begin" ya,
 gS "asked_numbers" "asked_numbers" zf,
 gS "__init__" "Run.__init__" yP,
 gS "put" "Run.put" xq,
 gS "draw" "Run.draw" xJ,
 gS "hold" "Run.hold" xI,
 gS "call" "Run.call" xH,
 gS "step" "Run.step" xK,
 gS "go" "Run.go" w9,
 gS "frames" "Run.frames" yu,
 gS "_law_mix" "_law_mix" wz,
 gS "_law_cell_at" "_law_cell_at" xY,
 gS "_law_number" "_law_number" xF,
 gS "_law_free" "_law_free" wZ,
 gS "_law_other_deed" "_law_other_deed" yN,
 gS "_law_second_deed" "_law_second_deed" yG,
 gS "_law_first_deed" "_law_first_deed" yM,
 gS "_law_bare" "_law_bare" w6,
 gS "_law_sworn_parts" "_law_sworn_parts" yF,
 gS "_law_hall_parts" "_law_hall_parts" yL,
 gS "_law_line_by" "_law_line_by" xX,
 gS "_law_deed_by" "_law_deed_by" xW,
 gS "_law_changed" "_law_changed" xV,
 gS "_law_run_by" "_law_run_by" xD,
 gS "_law_sought" "_law_sought" xE,
 gS "_law_true" "_law_true" wY,
 gS "law" "law" md]
def HK:PySem.W.Hook:=L2.rT (RD 733) (λK=>((e8 K).all id,gI K)) (true,gH)
set_option maxRecDepth 1000000 in
set_option maxHeartbeats 0 in
theorem qp:OpenLaw.wellSaid PySem.Challenge.rw_swornhall_k19_whole_no_word_is_broken=true:=by rw[PySem.W.Fast.te9446332074065402090];kernel_rfl
set_option maxRecDepth 1000000 in
set_option maxHeartbeats 0 in
theorem _root_.PySem.Challenge.hd_swornhall_k19_whole_no_word_is_broken (q:∀(d:DefRec) (kwd:List (Str×PySem.Expr)),defOf My.Qv PySem.Challenge.rw_swornhall_k19_whole_no_word_is_broken.row.name=some (d,kwd)->WalkO My.Qv [] (XL My.Qv []) (Hook.says My.HK) PySem.Challenge.rw_swornhall_k19_whole_no_word_is_broken.row.toRowW d kwd λf vs=>PySem.call f vs):PySem.Challenge.rw_swornhall_k19_whole_no_word_is_broken.Holds:=by
 refine holds_law My.qp λsaid=>?_;have h:=q _ _ rfl;refine(λ(_:type_of%h)=>?m) ?hc;rotate_left;exact h;o_head My.HK;case hw=>w_witness2
end
end My
namespace L2
open PySem PySem.Spec PyProof.Rows
abbrev bj:=Sum Int Str
def li:bj->be->Bool|.inl k,v=>Value.isInt k v|.inr x,v=>Value.isStrOf x v
def zA (w:R3):bj->Int|.inl k=>hashInt k|.inr x=>hashStr w x
theorem i5:∀{k:bj}{v:be},li k v=true->(∃ i t,k=Sum.inl i/\v=Value.int i t)\/(∃ x t,k=Sum.inr x/\v=Value.str x t)|.inl i,v,h=>by obtain⟨t,e⟩:=Value.isInt_shape (k:=i) (v:=v) h;exact .inl ⟨i,t,rfl,e⟩|.inr x,v,h=>by obtain⟨t,e⟩:=Value.isStrOf_shape (x:=x) (v:=v) h;exact .inr ⟨x,t,rfl,e⟩
theorem K6 (i:Int)(t:Tok):li (.inl i) (.int i t)=true:=by simp[li,Value.isInt]
theorem K5 (x:Str)(t:Tok):li (.inr x) (.str x t)=true:=by simp[li,Value.isStrOf]
theorem GK (a b:Int):decide ((Sum.inl a:bj)=Sum.inl b)=(a==b):=by
 by_cases e:a=b
 ·subst e;simp
 ·have h:¬ (Sum.inl a:bj)=Sum.inl b:=λq=>e (Sum.inl.inj q);rw[Oq h];exact(O9.mpr e).symm
theorem GJ (a b:Str):decide ((Sum.inr a:bj)=Sum.inr b)=decide (a=b):=by
 by_cases e:a=b
 ·subst e;simp
 ·have h:¬ (Sum.inr a:bj)=Sum.inr b:=λq=>e (Sum.inr.inj q);rw[Oq h,Oq e]
theorem Hw (a:Int)(b:Str):decide ((Sum.inl a:bj)=Sum.inr b)=false:=Oq (λq=>nomatch q)
theorem Hv (a:Str)(b:Int):decide ((Sum.inr a:bj)=Sum.inl b)=false:=Oq (λq=>nomatch q)
def eh (prog:RP)(w:R3):PySem.KeyKind prog w bj where
 is:=li;hash:=zA w;inj:=λv a b ha hb=>by
  rcases i5 ha with⟨i,t,rfl,rfl⟩|⟨x,t,rfl,rfl⟩
  ·rcases i5 hb with⟨j,u,rfl,e⟩|⟨y,u,rfl,e⟩
   ·injection e with e1 _;rw[e1]
   ·exact nomatch e
  ·rcases i5 hb with⟨j,u,rfl,e⟩|⟨y,u,rfl,e⟩
   ·exact nomatch e
   ·injection e with e1 _;rw[e1]
 byValue:=λk v h=>by rcases i5 h with⟨i,t,rfl,rfl⟩|⟨x,t,rfl,rfl⟩<;>rfl
 pyHash:=λhv h=>by
  rcases i5 hv with⟨i,t,rfl,rfl⟩|⟨x,t,rfl,rfl⟩
  ·exact wpAny_pyHash_int h
  ·exact wpAny_pyHash_str h
 eqBool:=λhu hv h=>by
  rcases i5 hu with⟨i,t,rfl,rfl⟩|⟨x,t,rfl,rfl⟩
  ·rcases i5 hv with⟨j,u,rfl,rfl⟩|⟨y,u,rfl,rfl⟩
   ·rw[GK]at h;exact wpAny_eqBool_int h
   ·rw[Hw]at h;exact SeqAt.EqAt.int_str i t y u _ _ _ _ h
  ·rcases i5 hv with⟨j,u,rfl,rfl⟩|⟨y,u,rfl,rfl⟩
   ·rw[Hv]at h;exact SeqAt.EqAt.str_int x t j u _ _ _ _ h
   ·rw[GJ]at h;exact wpAny_eqBool_str h
 «strs»:=λk x t v h=>by
  rcases i5 h with⟨i,u,rfl,e⟩|⟨y,u,rfl,e⟩
  ·exact nomatch e
  ·injection e with e1 _;subst e1;cases v<;>rfl
theorem Mr (prog:RP)(w:R3)(i:Int)(t:Tok):(eh prog w).is (.inl i) (.int i t)=true:=K6 i t
theorem Mq (prog:RP)(w:R3)(x:Str)(t:Tok):(eh prog w).is (.inr x) (.str x t)=true:=K5 x t
inductive V where|non|bl (b:Bool)|int (i:Int)|str (x:Str)|byt (b:Array UInt8)|flt (b:UInt64)|ref (a:Q2)|ty (n:String)
 deriving DecidableEq
abbrev Ry:=List V
def az:V->be->Prop|.non,u=>u=Sb|.bl b,u=>u=Value.bool b|.int i,u=>∃ t,u=Value.int i t|.str x,u=>∃ t,u=Value.str x t|.byt b,u=>∃ t,u=Value.bytes b t|.flt b,u=>∃ t,u=Value.float b t|.ref a,u=>u=RI a|.ty n,u=>u=Value.type n
abbrev ay:Ry->List be->Prop:=Paired az
variable {xs:Ry}{us:List be}
theorem ay.length(r:ay xs us):xs.length=us.length:=Paired.length r
theorem ay.get:∀{xs:Ry}{us:List be}{i:Nat}{x:V},ay xs us->xs[i]?=some x->∃ u,us[i]?=some u/\az x u|_,_,_,_,.nil,e=>by simp at e|_,_,0,_,.cons r _,e=>by simp at e;subst e;exact⟨_,rfl,r⟩|_,_,i+1,x,.cons _ t,e=>by obtain⟨u,h1,h2⟩:=ay.get (i:=i) (x:=x) t (by simpa using e);exact⟨u,by simpa using h1,h2⟩
variable {u:be}
theorem ay.set{x:V}(r:az x u):∀{xs:Ry}{us:List be}(i:Nat),ay xs us->ay (xs.set i x) (us.set i u)|_,_,_,.nil=>.nil|_,_,0,.cons _ t=>.cons r t|_,_,i+1,.cons q t=>.cons q (ay.set r i t)
theorem ay.append:∀{xs ys:Ry}{us ws:List be},ay xs us->ay ys ws->ay (xs++ys) (us++ws)|_,_,_,_,.nil,s=>s|_,_,_,_,.cons r t,s=>.cons r (ay.append t s)
theorem ay.take:∀{xs:Ry}{us:List be}(n:Nat),ay xs us->ay (xs.take n) (us.take n)|_,_,0,_=>.nil|_,_,_+1,.nil=>.nil|_,_,n+1,.cons r t=>.cons r (ay.take n t)
theorem ay.drop:∀{xs:Ry}{us:List be}(n:Nat),ay xs us->ay (xs.drop n) (us.drop n)|_,_,0,r=>r|_,_,_+1,.nil=>.nil|_,_,n+1,.cons _ t=>ay.drop n t
theorem ay.none_of:∀{xs:Ry}{us:List be}{i:Nat},ay xs us->xs[i]?=none->us[i]?=none:=λ{xs us i} r e=>by have h1:=r.length;have h2:xs.length<=i:=List.getElem?_eq_none_iff.mp e;exact List.getElem?_eq_none_iff.mpr (by omega)
def cv:Option V->Option be->Prop|some v,some u=>az v u|none,none=>True|_,_=>False
def KV {κ:Type}:List (κ×V)->List (κ×be)->Prop:=Paired λ(p:κ×V) (q:κ×be)=>p.1=q.1/\az p.2 q.2
noncomputable def kV:bj->V|.inl i=>.int i|.inr x=>.str x
inductive HO where
 /-- a list -/|lst (xs:Ry)
 /-- a tuple (never changes) -/|tup (xs:Ry)
 /-- a dict whose keys are ints and texts;one whose keys are tuples of ints and texts (the empty one is both) -/|dK (kvs:List (bj × V))|dT (kvs:List (List bj × V))
 /-- a set of ints: its members,its size -/|set (S:Int->Bool) (n:Nat)
 /-- an instance of the class at C,its dict at dx,its attributes -/|ins (C dx:Q2) (fs:List (Str × V))
 /-- the dict of the instance at x -/|own (x:Q2)
 /-- the dict of an exception -/|xd (fs:List (Str × V))
 /-- a bound method,f of x -/|met (f x:Q2)
 /-- a range object lo,lo+1,.. below hi -/|rng (lo hi:Int)
 /-- a thing that is known to the object (the script;a dict while a loop walks it): read,never written while it is so -/|frz (o:Obj) (u:HO)
 /-- a code object's table -/|tbl (ps:Array be)
 /-- any other thing,by what is true of its one object (a def of one's own: SetO a S n:=HO.ext λh=>..) -/|ext (φ:RW->Prop)
abbrev Hp:=Q2->Option HO
def upd (H:Hp)(a:Q2)(o:HO):Hp:=λb=>if b=a then some o else H b
variable {H:Hp}{a:Q2}{o:HO}
theorem aq:upd H a o a=some o:=by unfold upd;rw[Ol rfl]
variable {b:Q2}
theorem aC(h:b≠a):upd H a o b=H b:=by unfold upd;rw[Oh h]
theorem sT{u:HO}(h:H a=some o)(h':H b=some u)(d:o≠u):a≠b:=by intro e;subst e;rw[h]at h';exact d (OL h')
theorem cj(h:H a=some o)(h':H b=none):a≠b:=by intro e;subst e;rw[h]at h';cases h'
section
variable (P:RP)(w:R3)
def cS (H:Hp)(h:RW)(a:Q2):HO->Prop
 |.lst xs=>xs.length<=sizeLine/\∃(its:List be) (n:Nat),ay xs its/\h.get? a=some {cls:=.type "list",data:=.seq its.toArray n}|.tup xs=>xs.length<=sizeLine/\∃ its:List be,ay xs its/\IsTup h a its.toArray|.dK kvs=>kvs.length<=sizeLine/\(a==Sl)=false/\∃ vs,KV kvs vs/\h.DictOf (eh P w) a vs|.dT kvs=>kvs.length<=sizeLine/\(a==Sl)=false/\∃ xs:List (List bj×Q2×be),
   Paired (λ(p:List bj×V) (q:List bj×Q2×be)=>p.1=q.1/\H q.2.1=some (.tup (p.1.map kV))/\az p.2 q.2.2) kvs xs/\
   ∃ o es ep,h.get? a=some o/\o.ExactDict/\o.data=.dict es ep/\es.toList=xs.map (entryOfKey (tupleKind (eh P w)))/\(xs.map (·.1)).Nodup|.set S n=>h.SetOf (intKind P w) a S n|.ins C dx fs=>H dx=some (.own a)/\fs.length<=1000/\dx≠a/\h.get? a=some (R5 C dx)/\
   ∃ mA,h.Ns1 dx mA/\(∀ f,cv (fs.lookup f) (mA f))/\PySem.Within mA (fs.map (·.1))|.own _=>∃ o,h.get? a=some o|.xd fs=>∃ mA,h.Ns1 a mA/\∀ f,cv (fs.lookup f) (mA f)|.rng lo hi=>∃ t u v,h.get? a=some {cls:=.type "range",data:=.fields #[.int lo t,.int hi u,.int 1 v]}|.frz o u=>h.get? a=some o/\cS H h a u|.tbl ps=>h.get? a=some {cls:=.none,data:=.fields ps}|.met f x=>h.get? a=some (PySem.W.methodObj (.ref f) (.ref x))|.ext φ=>φ h/\(∃ o,h.get? a=some o)/\∀ h1 h2:RW,φ h1->(∀ o,h1.get? a=some o->h2.get? a=some o)->φ h2
def dk (H:Hp)(h:RW):Prop:=∀ a o,H a=some o->cS P w H h a o
end
variable {α:Type}{P:RP}{w:R3}{h h':RW}{H':Hp}
section
theorem cS.lt (x:cS P w H h a o):a<h.objs.size:=by cases o with
 |lst xs=>obtain⟨_,_,_,_,e⟩:=x;exact PD e|tup xs=>obtain⟨_,_,_,p⟩:=x;exact p.lt|dK kvs=>obtain⟨_,_,_,_,o,_,_,e,_⟩:=x;exact PD e|dT kvs=>obtain⟨_,_,_,_,o,_,_,e,_⟩:=x;exact PD e|set S n=>obtain⟨o,_,_,_,e,_⟩:=x;exact PD e|ins C dx fs=>obtain⟨_,_,_,e,_⟩:=x;exact PD e|own y=>obtain⟨_,e⟩:=x;exact PD e|xd fs=>obtain⟨_,⟨_,_,_,e,_⟩,_⟩:=x;exact PD e|rng lo hi=>obtain⟨_,_,_,e⟩:=x;exact PD e|frz ob u=>obtain⟨e,_⟩:=x;exact PD e|tbl ps=>exact PD (show h.get? a=some _ from x)|met f y=>exact PD (show h.get? a=some _ from x)|ext φ=>obtain⟨_,⟨_,e⟩,_⟩:=x;exact PD e
theorem Paired.mapP{β:Type}{F G:α->β->Prop}:∀{l₁:List α}{l₂:List β},Paired F l₁ l₂->(∀ a b,F a b->G a b)->Paired G l₁ l₂|_,_,.nil,_=>.nil|_,_,.cons r t,f=>.cons (f _ _ r) (Paired.mapP t f)
theorem cS.stay (x:cS P w H h a o)(k:∀ b u,(b=a\/H b=some (.own a))->h.get? b=some u->h'.get? b=some u)
  (ho:∀ b,H b=some (.own a)->H' b=some (.own a)) (ht:∀ b xs,H b=some (.tup xs)->H' b=some (.tup xs)):cS P w H' h' a o:=by induction o with
 |lst xs=>obtain⟨z,its,n,r,e⟩:=x;exact⟨z,its,n,r,k _ _ (.inl rfl) e⟩|tup xs=>obtain⟨z,its,r,ob,e,c⟩:=x;exact⟨z,its,r,ob,k _ _ (.inl rfl) e,c⟩|dK kvs=>obtain⟨z,y,vs,r,ob,es,ep,e,c⟩:=x;exact⟨z,y,vs,r,ob,es,ep,k _ _ (.inl rfl) e,c⟩|dT kvs=>obtain⟨z,y,xs,r,ob,es,ep,e,c⟩:=x;exact⟨z,y,xs,Paired.mapP r λp q z=>⟨z.1,ht _ _ z.2.1,z.2.2⟩,ob,es,ep,k _ _ (.inl rfl) e,c⟩|set S n=>obtain⟨ob,es,ep,t,e,c⟩:=x;exact⟨ob,es,ep,t,k _ _ (.inl rfl) e,c⟩|ins C dx fs=>obtain⟨d,z,ne,e,mA,⟨od,es,ep,e2,c⟩,r⟩:=x;exact⟨ho _ d,z,ne,k _ _ (.inl rfl) e,mA,⟨od,es,ep,k _ _ (.inr d) e2,c⟩,r⟩|own y=>obtain⟨ob,e⟩:=x;exact⟨ob,k _ _ (.inl rfl) e⟩|xd fs=>obtain⟨mA,⟨od,es,ep,e,c⟩,r⟩:=x;exact⟨mA,⟨od,es,ep,k _ _ (.inl rfl) e,c⟩,r⟩|rng lo hi=>obtain⟨t,u,v,e⟩:=x;exact⟨t,u,v,k _ _ (.inl rfl) e⟩|frz ob u ih=>obtain⟨e,q⟩:=x;exact⟨k _ _ (.inl rfl) e,ih q⟩|tbl ps=>have e:h.get? a=some {cls:=.none,data:=.fields ps}:=x;show h'.get? a=some {cls:=.none,data:=.fields ps};exact k a _ (.inl rfl) e|met f y=>have e:h.get? a=some (PySem.W.methodObj (.ref f) (.ref y)):=x;show h'.get? a=some (PySem.W.methodObj (.ref f) (.ref y));exact k a _ (.inl rfl) e|ext φ=>obtain⟨p,⟨o,e⟩,st⟩:=x;exact⟨st _ _ p λo q=>k _ _ (.inl rfl) q,⟨o,k _ _ (.inl rfl) e⟩,st⟩
theorem dk.lt (x:dk P w H h)(e:H a=some o):a<h.objs.size:=(x a o e).lt
theorem dk.fresh (x:dk P w H h)(e:h.objs.size<=a):H a=none:=by cases q:H a with
 |none=>rfl|some u=>exact OE (Ov (x.lt q) e) (Pm _)
theorem dk.kept (x:dk P w H h)(k:∀ b u,h.get? b=some u->h'.get? b=some u):dk P w H h':=λa o e=>(x a o e).stay (λb u _ q=>k b u q) (λ_ q=>q) λ_ _ q=>q
theorem dk.laid (x:dk P w H h)(k:∀ b u,h.get? b=some u->h'.get? b=some u)(hp:h.objs.size<=a)(new:cS P w (upd H a o) h' a o):dk P w (upd H a o) h':=λb u e=>by
 have hn:=x.fresh hp;by_cases hb:b=a
 ·subst hb;rw[aq]at e;cases e;exact new
 ·rw[aC hb]at e;exact(x b u e).stay (λc v _ q=>k c v q) (λc q=>by rw[aC (cj q hn)];exact q) λc xs q=>by rw[aC (cj q hn)];exact q
end
def Rd (H:Hp)(a:Q2)(u:HO):Prop:=H a=some u\/∃ o,H a=some (.frz o u)
theorem Rd.ok{u:HO}(r:Rd H a u)(x:dk P w H h):cS P w H h a u:=by
 rcases r with r|⟨o,r⟩
 ·exact x a u r
 ·obtain⟨_,q⟩:=x a _ r;exact q
def sF:Option HO->Prop|some (.lst _)=>True|some (.dK _)=>True|some (.dT _)=>True|some (.set _ _)=>True|some (.ins _ _ _)=>True|some (.ext _)=>True|_=>False
section
variable {x e:Q2}{o':HO}
theorem dk.write (ok:dk P w H h)(mu:sF (H x))(he:e=x\/H e=some (.own x))(k:∀ b u,b≠e->h.get? b=some u->h'.get? b=some u)(heo:∃ u,h'.get? e=some u)
  (new:cS P w (upd H x o') h' x o'):dk P w (upd H x o') h':=λb u q=>by
 have nown:∀ c y,H c=some (.own y)->c≠x:=λc y r z=>by subst z;rw[r]at mu;exact mu
 have ntup:∀ c xs,H c=some (.tup xs)->c≠x:=λc xs r z=>by subst z;rw[r]at mu;exact mu
 by_cases hb:b=x
 ·subst hb;rw[aq]at q;cases q;exact new
 ·rw[aC hb]at q;by_cases hbe:b=e
  ·have q':H b=some (.own x):=by
    rcases he with z|z
    ·exact OE (hbe.trans z) hb
    ·rw[hbe];exact z
   rw[q]at q';cases q';obtain⟨v,hv⟩:=heo;exact⟨v,by rw[hbe];exact hv⟩
  ·refine(ok b u q).stay (λc v hc r=>k c v ?_ r) (λc r=>by rw[aC (nown c b r)];exact r) λc xs r=>by rw[aC (ntup c xs r)];exact r
   rcases hc with rfl|hc
   ·exact hbe
   ·rintro rfl;rcases he with z|z
    ·exact nown c b hc z
    ·rw[hc]at z;cases z;exact hb rfl
end
structure Un (fs ex:Rz)(H H':Hp)(h h':RW):Prop where
 keep:∀ b o,h.get? b=some o->H b=none->b∉fs->b∉ex->h'.get? b=some o
 slot:∀ b o,h.get? b=some o->H b=none->b∈fs->b∉ex->∃ sl,h'.get? b=some {o with slots:=sl}
 free:∀ b o,h.get? b=some o->H b=none->b∉ex->H' b=none
 there:∀ b o,h.get? b=some o->b∉ex->∃ o',h'.get? b=some o'
 tups:∀ b xs,H b=some (.tup xs)->H' b=some (.tup xs)
 frzs:∀ b o u,H b=some (.frz o u)->H' b=some (.frz o u)
 tbls:∀ b ps,H b=some (.tbl ps)->∃ more,H' b=some (.tbl (ps++more))
section
variable {fs fs' ex ex':Rz}{H1 H2:Hp}{h1 h2:RW}{x e:Q2}
theorem Un.any(u:Un fs ex H H1 h h1){ob:Obj}(q:h.get? b=some ob)(n:H b=none)(hx:b∉ex):∃ sl,h1.get? b=some {ob with slots:=sl}:=by
 by_cases hb:b∈fs
 ·exact u.slot b ob q n hb hx
 ·exact⟨ob.slots,u.keep b ob q n hb hx⟩
theorem Un.kept (k:∀ b u,h.get? b=some u->h'.get? b=some u):Un fs ex H H h h':=⟨λb ob q _ _ _=>k b ob q,λb ob q _ _ _=>⟨ob.slots,k b ob q⟩,λ_ _ _ n _=>n,λb ob q _=>⟨ob,k b ob q⟩,λ_ _ q=>q,λ_ _ _ q=>q,λ_ ps q=>⟨#[],by rw[q];simp⟩⟩
theorem Un.refl:Un fs ex H H h h:=Un.kept λ_ _ q=>q
theorem Un.laid (k:∀ b u,h.get? b=some u->h'.get? b=some u)(hp:h.objs.size<=a)(hn:H a=none):Un fs ex H (upd H a o) h h' where
 keep:=λb u q _ _ _=>k b u q;slot:=λb u q _ _ _=>⟨u.slots,k b u q⟩;free:=λb u q n _=>by rw[aC (OH (Ov (PD q) hp))];exact n
 there:=λb u q _=>⟨u,k b u q⟩;tups:=λb xs q=>by rw[aC (cj q hn)];exact q
 frzs:=λb u xs q=>by rw[aC (cj q hn)];exact q
 tbls:=λb ps q=>⟨#[],by rw[aC (cj q hn),q];simp⟩
theorem Un.write (mu:sF (H x))(he:e=x\/H e=some (.own x))(k:∀ b u,b≠e->h.get? b=some u->h'.get? b=some u)(heo:∃ u,h'.get? e=some u):Un fs ex H (upd H x o) h h':=by
 have hx:∀ b,H b=none->b≠x:=λb n z=>by subst z;rw[n]at mu;exact mu
 have hb:∀ b,H b=none->b≠e:=λb n z=>by
  subst z;rcases he with r|r
  ·exact hx b n r
  ·rw[n]at r;cases r
 have hm:∀ b u,H b=some u->¬ sF (some u)->b≠x:=λb u q nm z=>by subst z;rw[q]at mu;exact nm mu
 refine⟨λb u q n _ _=>k b u (hb b n) q,λb u q n _ _=>⟨u.slots,k b u (hb b n) q⟩,λb u q n _=>by rw[aC (hx b n)];exact n,λb u q _=>?_,
  λb xs q=>by rw[aC (hm b _ q λz=>z)];exact q,λb u xs q=>by rw[aC (hm b _ q λz=>z)];exact q,λb ps q=>⟨#[],by rw[aC (hm b _ q λz=>z),q];simp⟩⟩
 by_cases hbe:b=e
 ·subst hbe;exact heo
 ·exact⟨u,k b u hbe q⟩
end
def uG (h:RW)(H:Hp):Rz:=(RD h.objs.size).filter λa=>(H a).isSome
def fc (h:RW)(H:Hp):RW:=PySem.W.hideAll h (uG h H)
theorem K4 (h:RW)(H:Hp):(fc h H).objs.size=h.objs.size:=PySem.W.hideAll_size _ _
theorem JO{o:Obj}(e:h.get? b=some o)(n:H b=none):(fc h H).get? b=some o:=PySem.W.hideAll_get _ e λhm=>by
  have q:(H b).isSome=true:=(Pn.mp hm).2;rw[n]at q;simp at q
theorem HU{o:Obj}(e:(fc h H).get? b=some o):h.get? b=some o/\H b=none:=by have e':h.get? b=some o:=PySem.W.of_hideAll (uG h H) e;nomatch e';cases q:H b with
 |none=>rfl|some x=>have hm:b∈uG h H:=Pn.mpr ⟨List.mem_range.mpr (PD e'),by simp[q]⟩;have z:(fc h H).get? b=none:=PySem.W.hideAll_none (uG h H) hm;rw[z]at e;cases e
structure Mod (K:Fg)(mg:Str->Option be)(base:RW):Prop where
 kin:K.In base
 glob:base.Ns RJ mg
 blt:∃ mb,base.Ns builtinsNs mb/\∀ x:Str,x≠"__name__" ->mb x=RQ x
 nolimit:base.NoLimit
structure Cx where
 prog:RP
 w:R3
 K:Fg
 mg:Str->Option be
 base:RW
 A:Sn
 N:List Str
 s₀:RC
 H₀:Hp
 env:Env
 outer:List Env
 stack:List Env
 ex:Rz
 fn:Str->Bool
 calm:Bool
 pn:RA
 xe:be->RC->Prop
def dQ (l:List Env):Rz:=l.filterMap (·.frame)
abbrev Cx.fs (X:Cx):Rz:=dQ X.outer
def oQ (sc:Scope)(x:Str):Prop:=sc.names.lookup x=some .local\/sc.names.lookup x=some .cell\/sc.names.lookup x=some .free
def oS (sc:Scope)(x:Str):Prop:=sc.names.lookup x=some .local\/sc.names.lookup x=some .cell
def sH (env:Env)(h:RW)(m:Str->Option be)(x:Str)(u:be):Prop:=(env.kindOf x=some .local/\m x=some u)\/((env.kindOf x=some .cell\/env.kindOf x=some .free)/\∃ c,env.cells.lookup x=some c/\h.IsCell c (some u))
structure Cx.Ok (X:Cx):Prop where
 mod:Mod X.K X.mg X.base
 kind:X.env.scope.kind=.function
 glob:X.env.globals=RJ
 blt:X.env.builtins=builtinsNs
 above:X.s₀.heap.objs.size<=X.env.locals
 inj:∀ x y c,X.env.cells.lookup x=some c->X.env.cells.lookup y=some c->x=y
 has:∀ x,(X.env.kindOf x=some .cell\/X.env.kindOf x=some .free)->∃ c,X.env.cells.lookup x=some c
 cab:∀ x c,X.fn x=true->X.env.cells.lookup x=some c->X.s₀.heap.objs.size<=c
 hd:X.calm=true->X.A.handled=none
 frames:X.A.frames=some X.stack
 stk:X.stack=X.outer\/(X.stack=X.env::X.outer/\X.env.frame=some X.env.locals)
 exf:∀ b∈X.ex,b≠X.env.locals/\∀ x c,X.env.cells.lookup x=some c->c≠b
 bs:∀ b o,X.base.get? b=some o->X.s₀.heap.get? b=some o/\X.H₀ b=none
 bsz:X.base.objs.size<=X.s₀.heap.objs.size
 noex:∀ b o,X.base.get? b=some o->b∉X.ex
 exfs:∀ b∈X.ex,b∉X.fs
 funs:X.s₀.heap.FunFrames X.base X.outer
 frf:∀ b∈X.fs,X.H₀ b=none
structure am (X:Cx)(P6:RA)(σ:List (Option V))(H:Hp)(s:RC):Prop where
 ok:X.Ok
 os:s.os=X.s₀.os
 bare:AllBare s.gens
 base:Un X.fs X.ex X.H₀ H X.s₀.heap s.heap
 loc:∃ m,s.heap.Ns X.env.locals m/\∀(i:Nat) (x:Str) (v:V),X.N[i]?=some x->σ[i]?=some (some v)->oQ X.env.scope x->∃ u,az v u/\sH X.env s.heap m x u
 cell:∀ x c,X.env.cells.lookup x=some c->∃ v,s.heap.IsCell c v
 free:H X.env.locals=none
 freeC:∀ x c,X.env.cells.lookup x=some c->H c=none
 pin:∀ p∈X.pn++P6,s.heap.get? p.1=some p.2/\H p.1=none/\p.1≠X.env.locals/\p.1∉X.fs/\∀ v,p.2.data≠.cell v
 hok:dk X.prog X.w H s.heap
 len:σ.length=X.N.length
variable {x:Str}{g':Array GenState}{t' i j:Nat}{d':Drawn}{ch:Rz}{it:Q2}{N:List Str}{M:Model}{A:Sn}{E:be->RC->Prop}{v:V}{s' s:RC}{X:Cx}{P6:RA}
section
variable {σ:List (Option V)}
theorem Cx.Ok.nofr(ok:X.Ok){o:Obj}(e:X.base.get? b=some o):b∉X.fs:=λhb=>by have:=(ok.funs.mem hb).1;rw[e]at this;cases this
theorem am.bs (I:am X P6 σ H s):∀ b o,X.base.get? b=some o->s.heap.get? b=some o/\H b=none:=λb o e=>⟨I.base.keep b o (I.ok.bs b o e).1 (I.ok.bs b o e).2 (I.ok.nofr e) (I.ok.noex b o e),I.base.free b o (I.ok.bs b o e).1 (I.ok.bs b o e).2 (I.ok.noex b o e)⟩
theorem am.bk (I:am X P6 σ H s):∀ b o,X.base.get? b=some o->s.heap.get? b=some o:=λb o e=>(I.bs b o e).1
theorem am.mod (I:am X P6 σ H s):Mod X.K X.mg X.base:=I.ok.mod
theorem am.kIn (I:am X P6 σ H s):X.K.In s.heap:=I.ok.mod.kin.keeps I.bk
theorem am.lt (I:am X P6 σ H s):X.env.locals<s.heap.objs.size:=let ⟨_,hn,_⟩:=I.loc;hn.lt
theorem am.sz (I:am X P6 σ H s):X.s₀.heap.objs.size<=s.heap.objs.size:=OI I.ok.above (Pu I.lt)
theorem am.nofs(I:am X P6 σ H s)(h:s.heap.objs.size<=a):a∉X.fs:=λhb=>by obtain⟨_,o,ho,_⟩:=I.ok.funs.mem hb;exact OE (Ov (PD ho) (OI I.sz h)) (Pm _)
theorem am.cne (I:am X P6 σ H s):∀ x c,X.env.cells.lookup x=some c->c≠X.env.locals:=λx c e z=>by obtain⟨v,o,ho,hd⟩:=I.cell x c e;obtain⟨m,⟨o',es,ep,ho',hd',_⟩,_⟩:=I.loc;rw[z,ho']at ho;cases ho;rw[hd']at hd;cases hd
theorem am.funs (I:am X P6 σ H s):s.heap.FunFrames X.base X.outer:=by
 have all:∀(l:List Env),(∀ b∈dQ l,b∈X.fs)->X.s₀.heap.FunFrames X.base l->s.heap.FunFrames X.base l:=by intro l;induction l with
  |nil=>intro _ _;trivial|cons env r ih=>intro hs hl;obtain⟨hk,⟨L,o,hf,hn,ho,hd⟩,hr⟩:=hl;have hL:L∈X.fs:=hs L (by unfold dQ;rw[Pb,hf];exact Oi);obtain⟨sl,e⟩:=I.base.slot L o ho (I.ok.frf L hL) hL λz=>I.ok.exfs L z hL;exact⟨hk,⟨L,_,hf,hn,e,hd⟩,ih (λb hb=>hs b (by unfold dQ;rw[Pb,hf];exact Oo _ hb)) hr⟩
 exact all X.outer (λ_ hb=>hb) I.ok.funs
theorem am.stack (I:am X P6 σ H s):s.heap.FunFrames X.base X.stack:=by
 rcases I.ok.stk with e|⟨e,hf⟩
 ·rw[e];exact I.funs
 ·rw[e];obtain⟨m,hn,_⟩:=I.loc;refine .cons (by rw[I.ok.kind];decide) hf hn ?_ I.funs;exact Heap.get?_none_of_le (OI I.ok.bsz I.ok.above)
theorem am.stkSub (I:am X P6 σ H s):∀ b∈dQ X.stack,b∈X.env.locals::X.fs:=λb hb=>by
 rcases I.ok.stk with e|⟨e,hf⟩
 ·rw[e]at hb;exact Oo _ hb
 ·rw[e]at hb;unfold dQ at hb;rw[Pb,hf]at hb;exact hb
theorem am.stkFree (I:am X P6 σ H s):∀ b∈dQ X.stack,H b=none:=λb hb=>by
 rcases Oe.mp (I.stkSub b hb)with e|hb
 ·rw[e];exact I.free
 ·obtain⟨_,o,ho,_⟩:=I.ok.funs.mem hb;exact I.base.free b o ho (I.ok.frf b hb) λz=>I.ok.exfs b z hb
theorem am.step(I:am X P6 σ H s)(hch:∀ b∈ch,(b∈X.ex\/X.s₀.heap.objs.size<=b)/\b≠X.env.locals/\(∀ x c,X.env.cells.lookup x=some c->c≠b)/\∀ p∈X.pn++P6,p.1≠b)(keep:∀ b o,b≠X.env.locals->b∉X.fs->b∉ch->s.heap.get? b=some o->H b=none->h'.get? b=some o)(slot:∀ b o,b≠X.env.locals->b∈X.fs->b∉ch->s.heap.get? b=some o->H b=none->∃ sl,h'.get? b=some {o with slots:=sl})(free:∀ b o,b∉ch->s.heap.get? b=some o->H b=none->H' b=none)(there:∀ b o,b∉ch->s.heap.get? b=some o->∃ o',h'.get? b=some o')(tups:∀ b xs,H b=some (.tup xs)->H' b=some (.tup xs))(frzs:∀ b o u,H b=some (.frz o u)->H' b=some (.frz o u))(tbls:∀ b ps,H b=some (.tbl ps)->∃ more,H' b=some (.tbl (ps++more)))(ns:∀ m,s.heap.Ns X.env.locals m->h'.Ns X.env.locals m)(hok:dk X.prog X.w H' h')(hg:AllBare g'):
  am X P6 σ H' {s with heap:=h',gens:=g',drawn:=d',toks:=t'}:=by
 have neL:∀ b o,X.s₀.heap.get? b=some o->b≠X.env.locals:=λb o e=>OH (Ov (PD e) I.ok.above);have neC:∀ b o,X.s₀.heap.get? b=some o->b∉X.ex->b∉ch:=λb o e hx hb=>by
  rcases(hch b hb).1 with z|z
  ·exact hx z
  ·exact OE (Ov (PD e) z) (Pm _)
 have cellK:∀ x c,X.env.cells.lookup x=some c->∀ v,s.heap.IsCell c v->h'.IsCell c v:=λx c e v ⟨o,ho,hd⟩=>by
  have nch:c∉ch:=λz=>(hch c z).2.2.1 x c e rfl;by_cases hc:c∈X.fs
  ·obtain⟨sl,q⟩:=slot c o (I.cne x c e) hc nch ho (I.freeC x c e);exact⟨_,q,hd⟩
  ·exact⟨o,keep c o (I.cne x c e) hc nch ho (I.freeC x c e),hd⟩
 refine⟨I.ok,I.os,hg,⟨λb o e n hb hx=>?_,λb o e n hb hx=>?_,λb o e n hx=>?_,λb o e hx=>?_,λb xs e=>tups b xs (I.base.tups b xs e),λb o xs e=>frzs b o xs (I.base.frzs b o xs e),λb ps e=>?_⟩,?_,λx c e=>?_,?_,λx c e=>?_,λp hp=>?_,hok,I.len⟩
 ·exact keep b o (neL b o e) hb (neC b o e hx) (I.base.keep b o e n hb hx) (I.base.free b o e n hx)
 ·obtain⟨sl,e1⟩:=I.base.slot b o e n hb hx;obtain⟨sl',e2⟩:=slot b _ (neL b o e) hb (neC b o e hx) e1 (I.base.free b o e n hx);exact⟨sl',e2⟩
 ·obtain⟨o',e1⟩:=I.base.there b o e hx;exact free b o' (neC b o e hx) e1 (I.base.free b o e n hx)
 ·obtain⟨o',e1⟩:=I.base.there b o e hx;exact there b o' (neC b o e hx) e1
 ·obtain⟨m1,e1⟩:=I.base.tbls b ps e;obtain⟨m2,e2⟩:=tbls b _ e1;exact⟨m1++m2,by rw[e2,Array.append_assoc]⟩
 ·obtain⟨m,hn,hl⟩:=I.loc;refine⟨m,ns m hn,λi x v e1 e2 e3=>?_⟩;obtain⟨u,r,l⟩:=hl i x v e1 e2 e3;nomatch u,r;rcases l with l|⟨k,c,e,z⟩
  ·exact .inl l
  ·exact .inr ⟨k,c,e,cellK x c e _ z⟩
 ·obtain⟨v,z⟩:=I.cell x c e;exact⟨v,cellK x c e v z⟩
 ·obtain⟨m,⟨o,_,_,ho,_⟩,_⟩:=I.loc;exact free _ o (λz=>(hch _ z).2.1 rfl) ho I.free
 ·obtain⟨v,o,ho,hd⟩:=I.cell x c e;exact free c o (λz=>(hch c z).2.2.1 x c e rfl) ho (I.freeC x c e)
 ·obtain⟨e,n,ne,nf,d⟩:=I.pin p hp;have nch:p.1∉ch:=λz=>(hch p.1 z).2.2.2 p hp rfl;exact⟨keep p.1 p.2 ne nf nch e n,free p.1 p.2 nch e n,ne,nf,d⟩
theorem am.un(I:am X P6 σ H s)(u:Un X.fs [] H H' s.heap h')(hok:dk X.prog X.w H' h'):am X P6 σ H' {s with heap:=h',toks:=t'}:=by obtain⟨m,⟨o,es,ep,ho,r⟩,_⟩:=id I.loc;obtain⟨sl,hL⟩:=u.any ho I.free (by simp);exact I.step (g':=s.gens) (d':=s.drawn) (ch:=[]) (λ_ z=>nomatch z) (λb o _ hb _ e n=>u.keep b o e n hb (by simp)) (λb o _ hb _ e n=>u.slot b o e n hb (by simp)) (λb o _ e n=>u.free b o e n (by simp)) (λb o _ e=>u.there b o e (by simp)) u.tups u.frzs u.tbls (λm' hm=>by obtain⟨o',es',ep',ho',r'⟩:=hm;rw[ho]at ho';cases ho';exact⟨_,es',ep',hL,r'⟩) hok I.bare
theorem am.call(I:am X P6 σ H s)(u:Un (dQ X.stack) ch H H' s.heap h')(hok:dk X.prog X.w H' h')(hg:AllBare g')(hch:∀ b∈ch,(b∈X.ex\/X.s₀.heap.objs.size<=b)/\b≠X.env.locals/\(∀ x c,X.env.cells.lookup x=some c->c≠b)/\∀ p∈X.pn++P6,p.1≠b):
  am X P6 σ H' {s with heap:=h',gens:=g',drawn:=d',toks:=t'}:=by obtain⟨m,⟨o,es,ep,ho,r⟩,_⟩:=id I.loc;obtain⟨sl,hL⟩:=u.any ho I.free λz=>(hch _ z).2.1 rfl;exact I.step (ch:=ch) hch (λb o hL hb hc e n=>u.keep b o e n (λz=>(Oe.mp (I.stkSub b z)).elim hL hb) hc) (λb o _ _ hc e n=>u.any e n hc) (λb o hc e n=>u.free b o e n hc) (λb o hc e=>u.there b o e hc) u.tups u.frzs u.tbls (λm' hm=>by obtain⟨o',es',ep',ho',r'⟩:=hm;rw[ho]at ho';cases ho';exact⟨_,es',ep',hL,r'⟩) hok hg
theorem am.turned(I:am X P6 σ H s)(k:∀ b o,b≠it->s.heap.get? b=some o->h'.get? b=some o)(hn:H it=none)(hL:it≠X.env.locals)(h1:it∈X.ex\/X.s₀.heap.objs.size<=it)(h2:∀ x c,X.env.cells.lookup x=some c->c≠it)(h3:∀ p∈X.pn++P6,p.1≠it):am X P6 σ H {s with heap:=h',toks:=t'}:=by
 have nit:∀ b u,H b=some u->b≠it:=λb u e z=>by rw[z,hn]at e;cases e
 refine I.step (g':=s.gens) (d':=s.drawn) (ch:=[it]) (λb hb=>?_) (λb o _ _ hc e _=>k b o (λz=>hc (by simp[z])) e) (λb o _ _ hc e _=>⟨o.slots,k b o (λz=>hc (by simp[z])) e⟩) (λ_ _ _ _ n=>n)
  (λb o hc e=>⟨o,k b o (λz=>hc (by simp[z])) e⟩) (λ_ _ e=>e) (λ_ _ _ e=>e) (λb ps e=>⟨#[],by rw[e];simp⟩) (λm hm=>?_) (λb u e=>?_) I.bare
 ·have e:b=it:=by simpa using hb
  subst e;exact⟨h1,hL,h2,h3⟩
 ·obtain⟨o,es,ep,ho,r⟩:=hm;exact⟨o,es,ep,k _ o (R7 hL) ho,r⟩
 ·refine(I.hok b u e).stay (λc v hc q=>k c v ?_ q) (λ_ q=>q) λ_ _ q=>q;rcases hc with z|z
  ·rw[z];exact nit b u e
  ·exact nit c _ z
theorem am.tok (I:am X P6 σ H s)(t:Nat):am X P6 σ H {s with toks:=t}:=I.un (h':=s.heap) (t':=t) Un.refl I.hok
theorem am.kept(I:am X P6 σ H s)(k:∀ b u,s.heap.get? b=some u->h'.get? b=some u):am X P6 σ H {s with heap:=h',toks:=t'}:=I.un (Un.kept k) (I.hok.kept k)
theorem am.laid(I:am X P6 σ H s)(k:∀ b u,s.heap.get? b=some u->h'.get? b=some u)(hp:s.heap.objs.size<=a)(new:cS X.prog X.w (upd H a o) h' a o):
  am X P6 σ (upd H a o) {s with heap:=h',toks:=t'}:=I.un (Un.laid k hp (I.hok.fresh hp)) (I.hok.laid k hp new)
theorem am.write{x e:Q2}(I:am X P6 σ H s)(mu:sF (H x))(he:e=x\/H e=some (.own x))(k:∀ b u,b≠e->s.heap.get? b=some u->h'.get? b=some u)(heo:∃ u,h'.get? e=some u)(new:cS X.prog X.w (upd H x o) h' x o):am X P6 σ (upd H x o) {s with heap:=h',toks:=t'}:=I.un (Un.write mu he k heo) (I.hok.write mu he k heo new)
theorem am.pins_of {pins':RA}(I:am X P6 σ H s)(h:∀ p∈pins',s.heap.get? p.1=some p.2/\H p.1=none/\p.1≠X.env.locals/\p.1∉X.fs/\∀ v,p.2.data≠.cell v):am X pins' σ H s:=⟨I.ok,I.os,I.bare,I.base,I.loc,I.cell,I.free,I.freeC,λp hp=>(bW.mp hp).elim (λz=>I.pin p (OK _ z)) (h p),I.hok,I.len⟩
theorem DO(hN:N.Nodup)(a:N[i]?=some x)(b:N[j]?=some x):i=j:=by obtain⟨h1,e1⟩:=d7.mp a;obtain⟨h2,e2⟩:=d7.mp b;exact(List.getElem_inj hN).mp (e1.trans e2.symm)
variable {Q:Unit->RC->Prop}
theorem D6(I:am X P6 σ H s)(hN:X.N.Nodup)(hi:X.N[i]?=some x)(hx:oS X.env.scope x)(r:az v u)(h:∀ s',am X P6 (σ.set i (some v)) H s'->(∃ a,Heap.SameBut a s.heap s'.heap/\(a=X.env.locals\/X.env.cells.lookup x=some a))->Q () s')(hf:autoParam (X.fn x=true\/X.env.scope.names.lookup x=some .local) oN):RF M A (storeName X.env x u) Q E s:=by
 obtain⟨m,hn,hl⟩:=id I.loc;have hcls:(X.env.scope.kind==.class ||(X.env.scope.kind==.module&&X.env.locals !=X.env.globals))=false:=by rw[I.ok.kind];rfl
 have hiσ:i<σ.length:=by rw[I.len];exact(d7.mp hi).1
 have cne:=I.cne;have tracked:∀{a:Q2}{h':RW},(∃ o,s.heap.get? a=some o/\H a=none)->Heap.SameBut a s.heap h'->dk X.prog X.w H h':=λ{a h'} ha hs b ob e=>by
  obtain⟨_,_,hfree⟩:=ha;refine(I.hok b ob e).stay (λc w' hc q=>(hs.2 c ?_).trans q) (λ_ q=>q) λ_ _ q=>q;rintro rfl;rcases hc with rfl|hc
  ·rw[hfree]at e;cases e
  ·rw[hfree]at hc;cases hc
 rcases hx with hk|hk
 ·refine wpAny_storeName_local hk hn (λh' hn' hs=>?_) hcls;obtain⟨oL,_,_,hoL,_⟩:=id hn;refine h _ ⟨I.ok,I.os,I.bare,⟨λb o e n hb hx=>?_,λb o e n hb hx=>?_,I.base.free,λb o e hx=>?_,I.base.tups,I.base.frzs,I.base.tbls⟩,⟨_,hn',λj y v' e1 e2 e3=>?_⟩,λy c e=>?_,I.free,I.freeC,λp hp=>?_,tracked ⟨oL,hoL,I.free⟩ hs,by simpa using I.len⟩ ⟨_,hs,.inl rfl⟩
  ·exact(hs.2 b (OH (Ov (PD e) I.ok.above))).trans (I.base.keep b o e n hb hx)
  ·obtain⟨sl,e1⟩:=I.base.slot b o e n hb hx;exact⟨sl,(hs.2 b (OH (Ov (PD e) I.ok.above))).trans e1⟩
  ·obtain⟨o',e1⟩:=I.base.there b o e hx;exact⟨o',(hs.2 b (OH (Ov (PD e) I.ok.above))).trans e1⟩
  ·by_cases hj:j=i
   ·subst hj;rw[hi]at e1;cases e1;rw[List.getElem?_set_self hiσ]at e2;cases e2;exact⟨u,r,.inl ⟨hk,by simp⟩⟩
   ·rw[List.getElem?_set_ne (R7 hj)]at e2;obtain⟨u',r',q⟩:=hl j y v' e1 e2 e3;nomatch u',r';rcases q with⟨k,e⟩|⟨k,c,e,z⟩
    ·refine .inl ⟨k,?_⟩;have:y≠x:=λe=>hj (DO hN e1 (e ▸ hi));simp[this,e]
    ·exact .inr ⟨k,c,e,z.sameBut hs (cne y c e)⟩
  ·obtain⟨w',z⟩:=I.cell y c e;exact⟨w',z.sameBut hs (cne y c e)⟩
  ·obtain⟨e,n,ne,nf,d⟩:=I.pin p hp;exact⟨(hs.2 p.1 ne).trans e,n,ne,nf,d⟩
 ·have hfn:X.fn x=true:=by
   rcases hf with z|z
   ·exact z
   ·rw[z]at hk;cases hk
  obtain⟨c,hc⟩:=I.ok.has x (.inl hk);obtain⟨w',z⟩:=I.cell x c hc;refine wpAny_storeName_cell I.ok.kind hk hc z (λh' hc' hs=>?_);obtain⟨oc,hoc,hocd⟩:=id z;refine h {s with heap:=h'} ⟨I.ok,I.os,I.bare,⟨λb o e n hb hx=>?_,λb o e n hb hx=>?_,I.base.free,λb o e hx=>?_,I.base.tups,I.base.frzs,I.base.tbls⟩,⟨m,hn.sameBut hs (R7 (cne x c hc)),λj y v' e1 e2 e3=>?_⟩,λy c' e=>?_,I.free,I.freeC,λp hp=>?_,tracked ⟨oc,hoc,I.freeC x c hc⟩ hs,by simpa using I.len⟩ ⟨c,hs,.inr hc⟩
  ·exact(hs.2 b (OH (Ov (PD e) (I.ok.cab x c hfn hc)))).trans (I.base.keep b o e n hb hx)
  ·obtain⟨sl,e1⟩:=I.base.slot b o e n hb hx;exact⟨sl,(hs.2 b (OH (Ov (PD e) (I.ok.cab x c hfn hc)))).trans e1⟩
  ·obtain⟨o',e1⟩:=I.base.there b o e hx;exact⟨o',(hs.2 b (OH (Ov (PD e) (I.ok.cab x c hfn hc)))).trans e1⟩
  ·by_cases hj:j=i
   ·subst hj;rw[hi]at e1;cases e1;rw[List.getElem?_set_self hiσ]at e2;cases e2;exact⟨u,r,.inr ⟨.inl hk,c,hc,hc'⟩⟩
   ·rw[List.getElem?_set_ne (R7 hj)]at e2;obtain⟨u',r',q⟩:=hl j y v' e1 e2 e3;nomatch u',r';rcases q with q|⟨k,c',e,z'⟩
    ·exact .inl q
    ·refine .inr ⟨k,c',e,z'.sameBut hs ?_⟩;rintro rfl;exact hj (DO hN e1 (I.ok.inj _ _ _ e hc ▸ hi))
  ·by_cases hcc:c'=c
   ·subst hcc;exact⟨_,hc'⟩
   ·obtain⟨w2,z2⟩:=I.cell y c' e;exact⟨w2,z2.sameBut hs hcc⟩
  ·obtain⟨e,n,ne,nf,d⟩:=I.pin p hp;refine⟨(hs.2 p.1 ?_).trans e,n,ne,nf,d⟩;intro q;rw[q,hoc]at e;have q':oc=p.2:=OL e;exact d w' (by rw[<-q'];exact hocd)
theorem tX(I:am X P6 σ H s)(hN:X.N.Nodup)(hi:X.N[i]?=some x)(hx:oS X.env.scope x)(r:az v u)(h:∀ s',am X P6 (σ.set i (some v)) H s'->Q () s')(hf:autoParam (X.fn x=true\/X.env.scope.names.lookup x=some .local) oN):RF M A (storeName X.env x u) Q E s:=D6 I hN hi hx r (λs' I' _=>h s' I') hf
theorem am.call'(I:am X P6 σ H s)(ho:s'.os=s.os)(u:Un (dQ X.stack) ch H H' s.heap s'.heap)(hok:dk X.prog X.w H' s'.heap)(hg:AllBare s'.gens)(hch:∀ b∈ch,(b∈X.ex\/X.s₀.heap.objs.size<=b)/\b≠X.env.locals/\(∀ x c,X.env.cells.lookup x=some c->c≠b)/\∀ p∈X.pn++P6,p.1≠b):am X P6 σ H' s':=by obtain⟨h',g',d',t',o'⟩:=s';have e:o'=s.os:=ho;subst e;exact I.call (g':=g') (t':=t') (d':=d') u hok hg hch
end
abbrev XK:=be->Option Q2->Hp->Prop
abbrev St:=List (Option V)
abbrev VK:=V->Hp->Prop
abbrev TE:=St->Hp->VK->Prop
abbrev TT:=St->Hp->(Bool->Hp->Prop)->Prop
abbrev TA:=St->Hp->(Ry->Hp->Prop)->Prop
structure bG where
 nx:St->Hp->Prop
 rt:VK
 bk:St->Hp->Prop:=λ_ _=>False
 ct:St->Hp->Prop:=λ_ _=>False
abbrev TS:=bG->St->Hp->Prop
def EP (X:Cx)(P6:RA)(σ:St)(Q:VK)(u:be)(s':RC):Prop:=∃ v H',am X P6 σ H' s'/\az v u/\Q v H'
def TP (X:Cx)(P6:RA)(σ:St)(Q:Bool->Hp->Prop)(b:Bool)(s':RC):Prop:=∃ H',am X P6 σ H' s'/\Q b H'
def AP (X:Cx)(P6:RA)(σ:St)(Q:Ry->Hp->Prop)(us:List be)(s':RC):Prop:=∃ vs H',am X P6 σ H' s'/\ay vs us/\Q vs H'
def SP (X:Cx)(P6:RA)(D:bG)(f:Flow)(s':RC):Prop:=match f with|.next=>∃ σ' H',am X P6 σ' H' s'/\D.nx σ' H'|.brk=>∃ σ' H',am X P6 σ' H' s'/\D.bk σ' H'|.cont=>∃ σ' H',am X P6 σ' H' s'/\D.ct σ' H'|.ret u=>∃ v σ' H',am X P6 σ' H' s'/\az v u/\D.rt v H'
def PE (X:Cx)(e:Expr)(t:TE):Prop:=∀(P6:RA) (s:RC) (σ:St) (H:Hp) (Q:VK),am X P6 σ H s->t σ H Q->RF (RK X.prog X.w) X.A (RS e X.env) (EP X P6 σ Q) X.xe s
def PT (X:Cx)(e:Expr)(t:TT):Prop:=∀(P6:RA) (s:RC) (σ:St) (H:Hp) (Q:Bool->Hp->Prop),am X P6 σ H s->t σ H Q->RF (RK X.prog X.w) X.A (isTrue e X.env (RS e X.env)) (TP X P6 σ Q) X.xe s
def PW (X:Cx)(e:Expr)(t:TT):Prop:=∀(Ql:Sem be) (P6:RA) (s:RC) (σ:St) (H:Hp) (Q:Bool->Hp->Prop),am X P6 σ H s->t σ H Q->RF (RK X.prog X.w) X.A (isTrue e X.env Ql) (TP X P6 σ Q) X.xe s
variable {e:Expr}
theorem PW.pt{t:TT}(h:PW X e t):PT X e t:=h _
def PA (X:Cx)(es:List Expr)(t:TA):Prop:=∀(pos:Pos) (P6:RA) (s:RC) (σ:St) (H:Hp) (Q:Ry->Hp->Prop),am X P6 σ H s->t σ H Q->RF (RK X.prog X.w) X.A (spliced (RZ pos (RE es X.env))) (AP X P6 σ Q) X.xe s
def PS (X:Cx)(st:RM)(t:TS):Prop:=∀(P6:RA) (s:RC) (σ:St) (H:Hp) (D:bG),am X P6 σ H s->t D σ H->RF (RK X.prog X.w) X.A (exec st X.env) (SP X P6 D) X.xe s
def fh (X:Cx)(st:List RM)(t:TS):Prop:=∀(P6:RA) (s:RC) (σ:St) (H:Hp) (D:bG),am X P6 σ H s->t D σ H->RF (RK X.prog X.w) X.A (execs st X.env) (SP X P6 D) X.xe s
theorem aL{t:Sem α}{Q Q':α->RC->Prop}(h:RF M A t Q E s)(hQ:∀ a s,Q a s->Q' a s):RF M A t Q' E s:=PL h hQ λ_ _ x=>x
variable {Q:be->RC->Prop}{ta tb:TE}{σ:St}{R:V->V->Hp->Prop}{pos:Pos}{op:CmpOp}{c:Expr}
section
theorem Od{a b:Expr}(ha:PE X a ta)(hb:PE X b tb)(I:am X P6 σ H s)(h:ta σ H λx H1=>tb σ H1 λy H2=>R x y H2){Q:α->RC->Prop}{f:be->be->Sem α}(hf:∀ v u s2 x y H2,am X P6 σ H2 s2->az x v->az y u->R x y H2->RF (RK X.prog X.w) X.A (f v u) Q X.xe s2):
  RF (RK X.prog X.w) X.A (RS a X.env) (λv s₁=>RF (RK X.prog X.w) X.A (RS b X.env) (λu s₂=>RF (RK X.prog X.w) X.A (f v u) Q X.xe s₂) X.xe s₁) X.xe s:=by refine aL (ha P6 s σ H _ I h) λv s1 ⟨x,H1,I1,r1,q1⟩=>?_;refine aL (hb P6 s1 σ H1 _ I1 q1) λu s2 ⟨y,H2,I2,r2,q2⟩=>?_;exact hf v u s2 x y H2 I2 r1 r2 q2
def ja (i:Nat):TE:=λσ H Q=>∃ v,σ[i]?=some (some v)/\Q v H
def tC (v:V):TE:=λ_ H Q=>Q v H
theorem Hu(hN:X.N[i]?=some x)(hv:oQ X.env.scope x)(hd:↥((x==("__debug__":Str))=false))(hcd:↥((x==("__classdict__":Str))=false)):PE X (.Name x pos) (ja i):=by
 intro P6 s σ H Q I h;obtain⟨v,e,h⟩:=h;obtain⟨m,hn,hl⟩:=I.loc;obtain⟨u,r,l⟩:=hl i x v hN e hv;have fin:EP X P6 σ Q u s:=⟨v,H,I,r,h⟩;rcases l with⟨hk,hm⟩|⟨hk,c,hc,hcell⟩
 ·exact wpAny_Name (wpAny_loadName_local I.ok.kind hk hn hm fin) hd
 ·rcases hk with hk|hk
  ·exact wpAny_Name (wpAny_loadName_cell I.ok.kind hk hc hcell fin) hd
  ·exact wpAny_Name (wpAny_loadName_free I.ok.kind hk hc hcell fin hcd) hd
theorem ah {i j pos}:PE X (.Constant (.int i) j pos) (tC (.int i)):=λ_ _ _ H _ I h=>wpAny_Constant_int ⟨.int i,H,I.tok _,⟨_,rfl⟩,h⟩
theorem gZ {b j pos}:PE X (.Constant (.bool b) j pos) (tC (.bl b)):=λ_ _ _ H _ I h=>Constant_bool ⟨.bl b,H,I,rfl,h⟩
theorem gk {j pos}:PE X (.Constant .none j pos) (tC .non):=λ_ _ _ H _ I h=>Constant_none ⟨.non,H,I,rfl,h⟩
theorem bJ {x j pos}:PE X (.Constant (.str x) j pos) (tC (.str x)):=λ_ _ _ H _ I h=>Calls.Constant_str ⟨.str x,H,I.tok _,⟨_,rfl⟩,h⟩
def Gl (X:Cx)(x:Str):Prop:=X.env.kindOf x=some .globalImplicit
theorem my(I:am X P6 σ H s)(hg:Gl X x)(hm:X.mg x=some u)(h:Q u s)(hd:↥((x==("__debug__":Str))=false)):RF (RK X.prog X.w) X.A (RS (.Name x pos) X.env) Q E s:=Calls.Name_function_global I.ok.kind hg (Calls.loadGlobal_global (by rw[I.ok.glob];exact I.mod.glob.keeps I.bk) hm h) hd
theorem nX(I:am X P6 σ H s)(hg:Gl X x)(hm:X.mg x=none)(hv:RQ x=some u)(h:Q u s)(hn:↥(x≠"__name__"))(hd:↥((x==("__debug__":Str))=false)):RF (RK X.prog X.w) X.A (RS (.Name x pos) X.env) Q E s:=by obtain⟨mb,h1,h2⟩:=I.mod.blt;exact Calls.Name_function_global I.ok.kind hg (Calls.loadGlobal_builtin (by rw[I.ok.glob];exact I.mod.glob.keeps I.bk) hm (by rw[I.ok.blt];exact h1.keeps I.bk) ((h2 x hn).trans hv) h) hd
theorem C7(hg:Gl X x)(hm:X.mg x=some u)(r:az v u)(hd:↥((x==("__debug__":Str))=false)):PE X (.Name x pos) (tC v):=λ_ _ _ H _ I h=>my I hg hm ⟨v,H,I,r,h⟩ hd
theorem HS(hg:Gl X x)(hm:X.mg x=none)(hv:RQ x=some u)(r:az v u)(hn:↥(x≠"__name__"))(hd:↥((x==("__debug__":Str))=false)):PE X (.Name x pos) (tC v):=λ_ _ _ H _ I h=>nX I hg hm hv ⟨v,H,I,r,h⟩ hn hd
variable {a b:Expr}
def PC (X:Cx)(op:CmpOp)(a b:Expr)(t:TE):Prop:=∀(P6:RA) (s:RC) (σ:St) (H:Hp) (Q:VK),am X P6 σ H s->t σ H Q->
  RF (RK X.prog X.w) X.A (RS a X.env) (λv s₁=>RF (RK X.prog X.w) X.A (RS b X.env) (λu s₂=>RF (RK X.prog X.w) X.A (RO op v u) (EP X P6 σ Q) X.xe s₂) X.xe s₁) X.xe s
def tB (t:TE):TT:=λσ H Q=>t σ H λx H1=>∃ c,x=.bl c/\Q c H1
theorem Ht{t:TE}(h:PC X op a b t)(h1:Ss op b=false:=by first|exact nobehind _ (by decide) (by decide)|rfl):PE X (.Compare a [op] [b] pos) t:=λP6 s σ H Q I hw=>wpAny_Compare1 (h P6 s σ H Q I hw) h1
theorem lF{t:TE}(h:PC X op a b t)(h1:Ss op b=false:=by first|exact nobehind _ (by decide) (by decide)|rfl):PT X (.Compare a [op] [b] pos) (tB t):=by intro P6 s σ H Q I hw;refine wpAny_isTrue_Compare1 (aL (h P6 s σ H _ I hw) λv s1 h1=>aL h1 λu s2 h2=>aL h2 λc s3 ⟨x,H1,I1,r1,q1⟩=>?_) h1;obtain⟨d,rfl,q⟩:=q1;cases r1;exact PP ⟨H1,I1,q⟩
theorem gj{t:TE}(h:PE X e t)(he:autoParam (∀ Ql,isTrue e X.env Ql=(do let v<-Ql;standAt e.pos;holding [v] (truthy v))) lR):PT X e (tB t):=by intro P6 s σ H Q I hw;refine isTrue_plain (aL (h P6 s σ H _ I hw) λv s1 ⟨x,H1,I1,r1,q1⟩=>?_) (he _);obtain⟨d,rfl,q⟩:=q1;cases r1;exact PP ⟨H1,I1,q⟩
variable {tA tB':TT}{rest:List Expr}
def ql (t u:TT):TT:=λσ H Q=>t σ H λc H1=>if c=true then u σ H1 Q else Q false H1
def Fz (t u:TT):TT:=λσ H Q=>t σ H λc H1=>if c=true then Q true H1 else u σ H1 Q
def qg (t:TT):TT:=λσ H Q=>t σ H λc H1=>Q (!c) H1
theorem wI (ha:PT X a tA):PW X (.BoolOp .And [a] pos) tA:=by intro wh P6 s σ H Q I h;refine isTrue_and (aL (ha P6 s σ H Q I h) λc s1 e=>?_);cases c with
 |true=>exact isTrue_and_nil e|false=>exact e
theorem nW (ha:PT X a tA):PW X (.BoolOp .Or [a] pos) tA:=by intro wh P6 s σ H Q I h;refine isTrue_or (aL (ha P6 s σ H Q I h) λc s1 e=>?_);cases c with
 |false=>exact isTrue_or_nil e|true=>exact e
theorem vT (ha:PT X a tA)(hb:PW X (.BoolOp .And (b::rest) pos) tB'):PW X (.BoolOp .And (a::b::rest) pos) (ql tA tB'):=by intro wh P6 s σ H Q I h;refine isTrue_and (aL (ha P6 s σ H _ I h) λc s1 ⟨H1,I1,q1⟩=>?_);cases c with
 |true=>exact hb wh P6 s1 σ H1 Q I1 q1|false=>exact⟨H1,I1,q1⟩
theorem jF (ha:PT X a tA)(hb:PW X (.BoolOp .Or (b::rest) pos) tB'):PW X (.BoolOp .Or (a::b::rest) pos) (Fz tA tB'):=by intro wh P6 s σ H Q I h;refine isTrue_or (aL (ha P6 s σ H _ I h) λc s1 ⟨H1,I1,q1⟩=>?_);cases c with
 |true=>exact⟨H1,I1,q1⟩|false=>exact hb wh P6 s1 σ H1 Q I1 q1
theorem lE (ha:PT X a tA):PT X (.UnaryOp .Not a pos) (qg tA):=by intro P6 s σ H Q I h;exact isTrue_not (ha P6 s σ H (λc H1=>Q (!c) H1) I h)
def BN (ta tb:TE):TE:=λσ H Q=>ta σ H λx H1=>∃ c,x=.bl c/\if c=true then tb σ H1 Q else Q (.bl false) H1
theorem eR {op}{t:TE}(h:PE X a t):PE X (.BoolOp op [a] pos) t:=λP6 s σ H Q I hw=>BoolOp_one (h P6 s σ H Q I hw)
theorem dY (ha:PE X a ta)(hb:PE X (.BoolOp .And (b::rest) pos) tb):PE X (.BoolOp .And (a::b::rest) pos) (BN ta tb):=by intro P6 s σ H Q I h;refine BoolOp_and (aL (ha P6 s σ H _ I h) λv s1 ⟨x,H1,I1,r1,q1⟩=>?_);obtain⟨c,rfl,q1⟩:=q1;cases r1;refine PP ?_;cases c with
 |true=>exact hb P6 s1 σ H1 Q I1 q1|false=>exact⟨.bl false,H1,I1,rfl,q1⟩
def FA (t:TT)(ta tb:TE):TE:=λσ H Q=>t σ H λc H1=>if c=true then ta σ H1 Q else tb σ H1 Q
theorem wX(hc:PT X c tA)(ha:PE X a ta)(hb:PE X b tb):PE X (.IfExp c a b pos) (FA tA ta tb):=by intro P6 s σ H Q I h;refine wpAny_IfExp (aL (hc P6 s σ H _ I h) λd s1 ⟨H1,I1,q1⟩=>?_);cases d with
 |true=>exact ha P6 s1 σ H1 Q I1 q1|false=>exact hb P6 s1 σ H1 Q I1 q1
end
def ao (K:Fg)(H:Hp)(a:Q2)(xs:Ry):Prop:=Rd H a (.lst xs)\/
  ∃(o:Obj) (its:Array be) (n:Nat),K.lookup a=some o/\o.cls=.type "list"/\o.dict=none/\o.data=.seq its n/\its.size<=sizeLine/\ay xs its.toList
def aB (K:Fg)(H:Hp)(a:Q2)(xs:Ry):Prop:=Rd H a (.tup xs)\/
  ∃(o:Obj) (its:Array be) (n:Nat),K.lookup a=some o/\o.cls=.type "tuple"/\o.data=.seq its n/\its.size<=sizeLine/\ay xs its.toList
noncomputable def zT:be->Option V|.none=>some .non|.bool b=>some (.bl b)|.int i _=>some (.int i)|.str x _=>some (.str x)|.bytes b _=>some (.byt b)|.float b _=>some (.flt b)|.ref a=>some (.ref a)|.type n=>some (.ty n)|_=>none
theorem az.abs{x:V}(r:az x u):zT u=some x:=by cases x with
 |non=>cases r;rfl|bl _=>cases r;rfl|int _=>obtain⟨t,rfl⟩:=r;rfl|str _=>obtain⟨t,rfl⟩:=r;rfl|byt _=>obtain⟨t,rfl⟩:=r;rfl|flt _=>obtain⟨t,rfl⟩:=r;rfl|ref _=>cases r;rfl|ty _=>cases r;rfl
variable {y:V}
theorem az.inj{x:V}(r:az x u)(q:az y u):x=y:=OL (r.abs.symm.trans q.abs)
theorem ay.inj:∀{xs ys:Ry}{us:List be},ay xs us->ay ys us->xs=ys|_,_,_,.nil,.nil=>rfl|_,_,_,.cons r t,.cons r' t'=>by rw[r.inj r',ay.inj t t']
variable {K:Fg}
section
variable {ys:Ry}
theorem ao.of(h:H a=some (.lst xs)):ao K H a xs:=.inl (.inl h)
theorem aB.of(h:H a=some (.tup xs)):aB K H a xs:=.inl (.inl h)
theorem am.list (I:am X P6 σ H s)(h:ao X.K H a xs):∃ its:List be,ay xs its/\PlainL s.heap a its.toArray/\xs.length<=sizeLine:=by
 rcases h with h|⟨o,its,n,hk,hc,hd,hs,hz,r⟩
 ·obtain⟨z,its,n,r,e⟩:=h.ok I.hok;exact⟨its,r,⟨_,n,e,rfl,rfl,rfl⟩,z⟩
 ·nomatch its.toList,r,⟨o,n,I.kIn a o hk,hc,hd,by simpa using hs⟩;have e:=r.length;simp only[Sv]at e;omega
theorem am.tuple (I:am X P6 σ H s)(h:aB X.K H a xs):∃ its:List be,ay xs its/\IsTup s.heap a its.toArray/\xs.length<=sizeLine:=by
 rcases h with h|⟨o,its,n,hk,hc,hs,hz,r⟩
 ·obtain⟨z,its,r,p⟩:=h.ok I.hok;exact⟨its,r,p,z⟩
 ·nomatch its.toList,r,⟨o,I.kIn a o hk,hc,n,by simpa using hs⟩;have e:=r.length;simp only[Sv]at e;omega
theorem am.list_inj (I:am X P6 σ H s)(h:ao X.K H a xs)(h':ao X.K H a ys):xs=ys:=by
 obtain⟨its,r,⟨o,n,e,_,_,d⟩,_⟩:=I.list h;obtain⟨its',r',⟨o',n',e',_,_,d'⟩,_⟩:=I.list h';rw[e]at e';cases e';rw[d]at d';injection d' with d1 _;have:its=its':=by simpa using congrArg Array.toList d1
 subst this;exact r.inj r'
theorem am.tuple_inj (I:am X P6 σ H s)(h:aB X.K H a xs)(h':aB X.K H a ys):xs=ys:=by
 obtain⟨its,r,⟨o,e,_,n,d⟩,_⟩:=I.tuple h;obtain⟨its',r',⟨o',e',_,n',d'⟩,_⟩:=I.tuple h';rw[e]at e';cases e';rw[d]at d';injection d' with d1 _;have:its=its':=by simpa using congrArg Array.toList d1
 subst this;exact r.inj r'
end
abbrev Cx.wish (X:Cx)(E:be->RC->Prop):Cx:={X with xe:=E}
abbrev Cx.nox (X:Cx):Cx:=X.wish λ_ _=>False
theorem Cx.Ok.wish(ok:X.Ok)(E:be->RC->Prop):(X.wish E).Ok:=⟨ok.mod,ok.kind,ok.glob,ok.blt,ok.above,ok.inj,ok.has,ok.cab,ok.hd,ok.frames,ok.stk,ok.exf,ok.bs,ok.bsz,ok.noex,ok.exfs,ok.funs,ok.frf⟩
theorem Cx.Ok.unwish(ok:(X.wish E).Ok):X.Ok:=⟨ok.mod,ok.kind,ok.glob,ok.blt,ok.above,ok.inj,ok.has,ok.cab,ok.hd,ok.frames,ok.stk,ok.exf,ok.bs,ok.bsz,ok.noex,ok.exfs,ok.funs,ok.frf⟩
section
theorem am.wish (I:am X P6 σ H s)(E:be->RC->Prop):am (X.wish E) P6 σ H s:=⟨I.ok.wish E,I.os,I.bare,I.base,I.loc,I.cell,I.free,I.freeC,I.pin,I.hok,I.len⟩
theorem am.unwish (I:am (X.wish E) P6 σ H s):am X P6 σ H s:=⟨I.ok.unwish,I.os,I.bare,I.base,I.loc,I.cell,I.free,I.freeC,I.pin,I.hok,I.len⟩
theorem SP.unwish{D:bG}{f:Flow}(h:SP (X.wish E) P6 D f s'):SP X P6 D f s':=by cases f with
 |next=>obtain⟨σ',H',I,q⟩:=h;exact⟨σ',H',I.unwish,q⟩|brk=>obtain⟨σ',H',I,q⟩:=h;exact⟨σ',H',I.unwish,q⟩|cont=>obtain⟨σ',H',I,q⟩:=h;exact⟨σ',H',I.unwish,q⟩|ret u=>obtain⟨v,σ',H',I,r,q⟩:=h;exact⟨v,σ',H',I.unwish,r,q⟩
theorem fh.nox {st:List RM}{t:TS}(h:fh X.nox st t):fh X st t:=λP6 s σ H D I hw=>PL (h P6 s σ H D (I.wish _) hw) (λ_ _ q=>q.unwish) λ_ _ z=>OR z
end
variable {tc:TT}{te:TE}
section
variable {st:RM}{rest:List RM}{t u:TS}
def sS:TS:=λD σ H=>D.nx σ H
def fU (t u:TS):TS:=λD σ H=>t {D with nx:=u D} σ H
theorem bp:fh X [] sS:=λ_ _ σ H _ I h=>P0 ⟨σ,H,I,h⟩
theorem av (h1:PS X st t)(h2:fh X rest u):fh X (st::rest) (fU t u):=by intro P6 s σ H D I h;refine wpAny_execs_cons (aL (h1 P6 s σ H {D with nx:=u D} I h) λf s1 q=>?_);cases f with
 |next=>obtain⟨σ',H',I',q⟩:=q;exact h2 P6 s1 σ' H' D I' q|ret v=>exact q|brk=>exact q|cont=>exact q
theorem aw (h1:PS X st t):fh X [st] t:=by intro P6 s σ H D I h;refine wpAny_execs_cons (aL (h1 P6 s σ H D I h) λf s1 q=>?_);cases f with
 |next=>exact P0 q|ret v=>exact q|brk=>exact q|cont=>exact q
def BM:TS:=λD σ H=>D.ct σ H
theorem Mp:PS X (.Continue pos) BM:=λ_ _ σ H _ I h=>wpAny_Continue ⟨σ,H,I,h⟩
theorem am.quiet(I:am X P6 σ H s):interactive X.env=false:=by simp[interactive,I.ok.kind]
def vm (te:TE):TS:=λD σ H=>te σ H λ_ H1=>D.nx σ H1
theorem dA (he:PE X e te)(hs:⇑(swapsWith e none pos.line X.env=So false)):PS X (.Expr e pos) (vm te):=by intro P6 s σ H D I h;exact wpAny_Expr_any (aL (he P6 s σ H _ I h) λv s1 ⟨x,H1,I1,r1,q1⟩=>⟨σ,H1,I1,q1⟩) I.quiet hs
def gJ (te:TE):TS:=λD σ H=>te σ H D.rt
theorem aF (he:PE X e te):PS X (.Return (some e) pos) (gJ te):=by intro P6 s σ H D I h;exact wpAny_Return_some (aL (he P6 s σ H _ I h) λv s1 ⟨x,H1,I1,r1,q1⟩=>⟨x,σ,H1,I1,r1,q1⟩)
def qe:TS:=λD _ H=>D.rt .non H
theorem C6:PS X (.Return none pos) qe:=λ_ _ σ H _ I h=>wpAny_Return_none ⟨.non,σ,H,I,rfl,h⟩
def jb (c:TT)(t u:TS):TS:=λD σ H=>c σ H λb H1=>if b=true then t D σ H1 else u D σ H1
theorem bb{a b:List RM}(hc:PT X c tc)(ha:fh X a t)(hb:fh X b u):PS X (.If c a b pos) (jb tc t u):=by intro P6 s σ H D I h;refine wpAny_If (aL (hc P6 s σ H _ I h) λd s1 ⟨H1,I1,q1⟩=>?_);cases d with
 |true=>exact ha P6 s1 σ H1 D I1 q1|false=>exact hb P6 s1 σ H1 D I1 q1
def Hs:TS:=λ_ _ _=>False
end
abbrev TG:=V->St->Hp->(St->Hp->Prop)->Prop
abbrev ju:=Ry->St->Hp->(St->Hp->Prop)->Prop
def PG (X:Cx)(target:Expr)(t:TG):Prop:=∀(P6:RA) (s:RC) (σ:St) (H:Hp) (v:V) (u:be) (Q:St->Hp->Prop),am X P6 σ H s->az v u->t v σ H Q->
  RF (RK X.prog X.w) X.A (assign target X.env u) (λ_ s'=>∃ σ' H',am X P6 σ' H' s'/\Q σ' H') X.xe s
def m6 (X:Cx)(ts:List Expr)(t:ju):Prop:=∀(P6:RA) (s:RC) (σ:St) (H:Hp) (vs:Ry) (us:List be) (Q:St->Hp->Prop),am X P6 σ H s->ay vs us->t vs σ H Q->
  RF (RK X.prog X.w) X.A (assignInOrder ((R9 ts X.env).map (·.2)) us) (λ_ s'=>∃ σ' H',am X P6 σ' H' s'/\Q σ' H') X.xe s
abbrev kX:=V->V->V->Hp->(Hp->Prop)->Prop
def sx (X:Cx)(t:kX):Prop:=∀(P6:RA) (s:RC) (σ:St) (H:Hp) (o i v:V) (ov iv u:be) (Q:Hp->Prop),am X P6 σ H s->az o ov->az i iv->az v u->t o i v H Q->
  RF (RK X.prog X.w) X.A (setItem ov iv u) (λ_ s'=>∃ H',am X P6 σ H' s'/\Q H') X.xe s
variable {es:List Expr}{n:Nat}{tg:Expr}{g:TG}{pos':Pos}
section
def mh (i:Nat):TG:=λv σ H Q=>Q (σ.set i (some v)) H
theorem C5(hN:X.N.Nodup)(hi:X.N[i]?=some x)(hx:oS X.env.scope x)(hf:autoParam (X.fn x=true\/X.env.scope.names.lookup x=some .local) oN):PG X (.Name x pos) (mh i):=by intro P6 s σ H v u Q I r h;exact wpAny_assign_Name (tX I hN hi hx r (λs' I'=>⟨_,H,I',h⟩) hf)
def zN:ju:=λvs σ H Q=>vs=[]/\Q σ H
inductive lX (vs:Ry)(P:V->Ry->Prop):Prop|mk (v:V) (r:Ry) (e:vs=v::r) (q:P v r):lX vs P
def rP (t:TG)(u:ju):ju:=λvs σ H Q=>lX vs λv r=>t v σ H λσ' H'=>u r σ' H' Q
theorem lG:m6 X [] zN:=by intro P6 s σ H vs us Q I r h;obtain⟨e,h⟩:=h;subst e;cases r;exact assignInOrder_nil ⟨σ,H,I,h⟩
theorem fB{t:TG}{u:ju}(h1:PG X e t)(h2:m6 X es u)(hs:⇑((R9 (e::es) X.env).map (·.2)=assign e X.env::(R9 es X.env).map (·.2))):m6 X (e::es) (rP t u):=by intro P6 s σ H vs us Q I r h;obtain⟨v,vr,e1,h⟩:=h;subst e1;cases r with|cons r rr=>rw[hs];refine assignInOrder_cons (aL (h1 P6 s σ H _ _ _ I r h) λ_ s1 ⟨σ1,H1,I1,q1⟩=>?_);exact h2 P6 s1 σ1 H1 _ _ Q I1 rr q1
inductive sr (K:Fg)(n:Nat)(v:V)(H:Hp)(P:Ry->Prop):Prop|mk (a:Q2) (xs:Ry) (e:v=.ref a) (h:aB K H a xs) (l:xs.length=n) (q:P xs):sr K n v H P
def rN (K:Fg)(n:Nat)(t:ju):TG:=λv σ H Q=>sr K n v H λxs=>t xs σ H Q
theorem Hr{k:Nat}{t:ju}(hc:X.calm=true)(h:m6 X es t)(hn:⇑((R9 es X.env).length=n))(hst:⇑((R9 es X.env).findIdx? (·.1)=none)):PG X (.Tuple es k pos) (rN X.K n t):=by intro P6 s σ H v u Q I r hw;obtain⟨a,xs,e1,hq,hl,hw⟩:=hw;subst e1;cases r;obtain⟨its,rv,ht,hz⟩:=I.tuple hq;refine assign_Tuple_tuple (I.ok.hd hc) ht (by simp[hn,<-hl,rv.length]) hst λh' hx=>?_;have I1:am X P6 σ H {s with heap:=h'}:=I.kept (t':=s.toks) λb o e=>hx b o (OH (PD e)) e;exact h P6 _ σ H xs _ Q I1 (by simpa using rv) hw
def rO (to ti:TE)(t:kX):TG:=λv σ H Q=>to σ H λo H1=>ti σ H1 λi H2=>t o i v H2 λH3=>Q σ H3
theorem pc {o i:Expr}{to ti:TE}{t:kX}(ho:PE X o to)(hi:PE X i ti)(hs:sx X t)
  (ha:autoParam (∀ v,assign (.Subscript o i pos) X.env v=(do
   let ov<-holding [v] (RS o X.env)
   let iv<-holding [v,ov] (RS i X.env)
   standAt pos
   holding [v,ov,iv] (setItem ov iv v)
   release [v,ov,iv] [])) lR):PG X (.Subscript o i pos) (rO to ti t):=by intro P6 s σ H v u Q I r h;rw[ha];refine Pz (PV (aL (ho P6 s σ H _ I h) λov s1 ⟨x,H1,I1,r1,q1⟩=>?_));refine Pz (PV (aL (hi P6 s1 σ H1 _ I1 q1) λiv s2 ⟨y,H2,I2,r2,q2⟩=>?_));refine Pz (P4 (Pz (PV (aL (hs P6 s2 σ H2 x y v ov iv u _ I2 r1 r2 r q2) λ_ s3 ⟨H3,I3,q3⟩=>?_))));exact wpAny_release ⟨σ,H3,I3,q3⟩
def iw (te:TE)(g:TG):TS:=λD σ H=>te σ H λx H1=>g x σ H1 D.nx
theorem nV(he:PE X e te)(hg:PG X tg g)(hs:⇑(swapsWithSole [tg] e pos.line X.env=So false))(hw:⇑(swappedStores [tg] e X.env=So none))(h1:⇑((R9 [tg] X.env).map (·.2)=[assign tg X.env])):PS X (.Assign [tg] e pos) (iw te g):=by intro P6 s σ H D I h;refine wpAny_Assign_stores (aL (he P6 s σ H _ I h) λv s1 ⟨x,H1,I1,r1,q1⟩=>?_) hs hw;rw[h1];exact aL (hg P6 s1 σ H1 x v _ I1 r1 q1) λ_ s2 q=>q
theorem Hq(hN:X.N.Nodup)(hi:X.N[i]?=some x)(hx:oS X.env.scope x)(he:PE X e te)(hs:⇑(swapsWith e (some (.Name x pos')) pos.line X.env=So false))(hf:autoParam (X.fn x=true\/X.env.scope.names.lookup x=some .local) oN):
  PS X (.Assign [.Name x pos'] e pos) (iw te (mh i)):=by intro P6 s σ H D I h;refine wpAny_Assign_Name (aL (he P6 s σ H _ I h) λv s1 ⟨y,H1,I1,r1,q1⟩=>?_) hs;exact tX I1 hN hi hx r1 (λs2 I2=>⟨_,H1,I2,q1⟩) hf
def qf (i j:Nat)(ta:TA):TS:=λD σ H=>ta σ H λvs H1=>∃ v w,vs=[v,w]/\D.nx ((σ.set i (some v)).set j (some w)) H1
theorem Ho{y:Str}{a b:Expr}{ta:TA}{px py pt:Pos}{kt k2 pt2}(hc:X.calm=true)(hN:X.N.Nodup)(hi:X.N[i]?=some x)(hj:X.N[j]?=some y)(hij:i≠j)(hx:X.env.scope.names.lookup x=some .local)(hy:X.env.scope.names.lookup y=some .local)(ha:PA X [a,b] ta)(hw:swappedStores [.Tuple [.Name x px,.Name y py] kt pt] (.Tuple [a,b] k2 pt2) X.env=So (some [x,y]))(hs:⇑(swapsWithSole [.Tuple [.Name x px,.Name y py] kt pt] (.Tuple [a,b] k2 pt2) pos.line X.env=So false)):
  PS X (.Assign [.Tuple [.Name x px,.Name y py] kt pt] (.Tuple [a,b] k2 pt2) pos) (qf i j ta):=by
 intro P6 s σ H D I h;rw[exec_Assign_arm];refine Pz (P4 ?_);rw[hs];refine Pz (PF ?_);rw[Oh (by decide)];refine Pz (Tuple_ (aL (ha _ P6 s σ H _ I h) λus s1 ⟨vs,H1,I1,r1,q1⟩=>?_));obtain⟨v,w,e1,q1⟩:=q1;subst e1;obtain⟨u1,u2,rfl,rv,rw'⟩:∃ u1 u2,us=[u1,u2]/\az v u1/\az w u2:=by cases r1 with|cons p q=>cases q with|cons p' q'=>cases q';exact⟨_,_,rfl,p,p'⟩
 refine PX ?_ (by show 2<=sizeLine;decide);have I2:am X P6 σ H1 {s1 with heap:=s1.heap.push {cls:=.type "tuple",data:=.seq [u1,u2].toArray}}:=I1.kept (t':=s1.toks) λb o e=>PB _ e;rw[hw];refine Pz (PF ?_);show RF (RK X.prog X.w) X.A (do rule "assign.swapped-stores";let items<-unpackItems (.ref s1.heap.objs.size) 2 none;assignInOrder [λv=>bindName X.env y v,λv=>bindName X.env x v] items.reverse;So Flow.next) _ _ _;refine Pz (wpAny_rule (Pz (unpackItems_tuple (items:=#[u1,u2]) (I.ok.hd hc) (IsTup.new s1.heap _) λh' hx'=>?_)));have I3:=I2.kept (h':=h') (t':=s1.toks) λb o e=>hx' b o (OH (PD e)) e;show RF _ _ (assignInOrder [λv=>bindName X.env y v,λv=>bindName X.env x v] [u2,u1]>>=λ_=>So Flow.next) _ _ _;refine Pz (assignInOrder_cons (wpAny_bindName (tX I3 hN hj (.inl hy) rw' (λs2 I4=>?_) (.inr hy))));refine assignInOrder_cons (wpAny_bindName (tX I4 hN hi (.inl hx) rv (λs3 I5=>assignInOrder_nil (PF ?_)) (.inr hx)));rw[List.set_comm _ _ (R7 hij)]at I5;exact⟨_,H1,I5,q1⟩
end
variable {body:List RM}
section
def Hn (c:TT)(tb:TS):TS:=λD σ H=>∃ W:Nat->St->Hp->Prop,(∃ m,W m σ H)/\∀ m σ H,W m σ H->
 c σ H λb H1=>if b=true then ∃ N:St->Hp->Prop,(∀ σ' H',N σ' H'->∃ m',m'<m/\W m' σ' H')/\tb {D with nx:=N,ct:=N,bk:=D.nx} σ H1 else D.nx σ H1
theorem tW{tb:TS}(hp:PassesOwn (RK X.prog X.w) X.A X.env X.xe)(hc:PT X c tc)(hb:fh X body tb):PS X (.While c body [] pos) (Hn tc tb):=by intro P6 s σ H D I h;obtain⟨W,⟨m0,w0⟩,turn⟩:=h;refine wpAny_While (codeAny_whileLoop (λn s'=>∃ σ' H',am X P6 σ' H' s'/\W n σ' H') ?_ m0 ⟨σ,H,I,w0⟩);rintro n s1 ⟨σ1,H1,I1,w1⟩;refine PZ hp (aL (hc P6 s1 σ1 H1 _ I1 (turn n σ1 H1 w1)) λb s2 ⟨H2,I2,q2⟩=>?_);cases b with
 |true=>obtain⟨N,hN,q2⟩:=q2;rw[Ol rfl];refine PZ hp (aL (hb P6 s2 σ1 H2 _ I2 q2) λf s3 q3=>?_);cases f with
  |next=>obtain⟨σ3,H3,I3,n3⟩:=q3;obtain⟨m',hm,w3⟩:=hN σ3 H3 n3;exact⟨m',hm,σ3,H3,I3,w3⟩|cont=>obtain⟨σ3,H3,I3,n3⟩:=q3;obtain⟨m',hm,w3⟩:=hN σ3 H3 n3;exact⟨m',hm,σ3,H3,I3,w3⟩|brk=>exact q3|ret v=>exact q3
 |false=>rw[Oh Ox];exact P0 ⟨σ1,H2,I2,q2⟩
end
structure It where
 go:Nat->Hp->Prop
 yld:Nat->Hp->V->Hp->Prop
 stop:Nat->Hp->Prop
def cX (X:Cx)(P6:RA)(H:Hp)(b:Q2):Prop:=H b=none/\b≠X.env.locals/\b∉X.fs/\(b∈X.ex\/X.s₀.heap.objs.size<=b)/\(∀ x c,X.env.cells.lookup x=some c->c≠b)/\∀ p∈X.pn++P6,p.1≠b
theorem am.fpOk(I:am X P6 σ H s)(hb:s.heap.objs.size<=b)(hn:H' b=none):cX X P6 H' b:=by
 refine⟨hn,Nat.ne_of_gt (Ov I.lt hb),I.nofs hb,.inr (OI I.sz hb),λx c e z=>?_,λp hp z=>?_⟩
 ·obtain⟨v,q⟩:=I.cell x c e;exact OE (Ov q.lt (by rw[z];exact hb)) (Pm _)
 ·exact OE (Ov (PD (I.pin p hp).1) (by rw[z];exact hb)) (Pm _)
structure iC (P:RP)(w:R3)(K:Fg)(tg:Expr)(J:It)(fp:Rz)(it:Q2)(tn:Nat->RW->Prop):Prop where
 mem:it∈fp
 obj:∀ i h,tn i h->∀ b∈fp,∃ o,h.get? b=some o/\∀ v,o.data≠.cell v
 keep:∀ i h h',tn i h->(∀ b∈fp,∀ o,h.get? b=some o->h'.get? b=some o)->tn i h'
 item:∀(X:Cx),X.prog=P->X.w=w->X.K=K->X.calm=true->∀(i:Nat) (P6:RA) (s:RC) (σ:St) (H:Hp) (E:be->RC->Prop),am X P6 σ H s->(∀ b∈fp,cX X P6 H b)->tn i s.heap->J.go i H->
  RF (RK P w) X.A (pyNext (.ref it)) (λr s1=>∃ u,r=some u/\
   RF (RK P w) X.A (letOwnedTupleGo tg (.ref it) u) (λ_ s2=>∃ x H',am X P6 σ H' s2/\az x u/\J.yld i H x H'/\tn (i+1) s2.heap/\∀ b∈fp,H' b=none) E s1) E s
 done:∀(X:Cx),X.prog=P->X.w=w->X.K=K->X.calm=true->∀(i:Nat) (P6:RA) (s:RC) (σ:St) (H:Hp) (E:be->RC->Prop),am X P6 σ H s->(∀ b∈fp,cX X P6 H b)->tn i s.heap->J.stop i H->
  RF (RK P w) X.A (pyNext (.ref it)) (λr s1=>r=none/\am X P6 σ H s1) E s
 self:∀(A:Sn) (i:Nat) (s:RC) (Q:be->RC->Prop) (E:be->RC->Prop),tn i s.heap->Q (.ref it) s->RF (RK P w) A (pyIter (.ref it)) Q E s
abbrev TI:=St->Hp->(It->Hp->Prop)->Prop
def FG (X:Cx)(P6:RA)(σ:St)(tg:Expr)(R:It->Hp->Prop)(itv:be)(s2:RC):Prop:=∃(it:Q2) (fp:Rz) (tn:Nat->RW->Prop) (J:It) (H':Hp),itv=.ref it/\am X P6 σ H' s2/\iC X.prog X.w X.K tg J fp it tn/\tn 0 s2.heap/\(∀ b∈fp,cX X P6 H' b)/\R J H'
def PI (X:Cx)(tg iter:Expr)(wi:TI):Prop:=∀(P6:RA) (s:RC) (σ:St) (H:Hp) (R:It->Hp->Prop),am X P6 σ H s->wi σ H R->
  RF (RK X.prog X.w) X.A (RS iter X.env) (λv s1=>RF (RK X.prog X.w) X.A (pyIter v) (FG X P6 σ tg R) X.xe s1) X.xe s
theorem vk{o:Obj}{n:String}{vs:Array be}{Q:Unit->RC->Prop}(ho:s.heap.get? it=some o)(hc:o.cls=.type n)(hd:o.data=.fields vs)(hn:["enumerate","zip","dict_itemiterator","dict_reverseitemiterator","odict_iterator","itertools.zip_longest","itertools.pairwise"].contains n=false)(hQ:Q () s):RF M A (letOwnedTupleGo tg (.ref it) u) Q E s:=by unfold letOwnedTupleGo;cases tg<;>first
    | exact PF hQ|(cases u<;>first
        | exact PF hQ
        | (refine Pz (wpAny_load ho ?_)
           rw[hc,hd];show RF M A (if(["enumerate","zip","dict_itemiterator","dict_reverseitemiterator","odict_iterator","itertools.zip_longest","itertools.pairwise"].contains n&&vs[0]?==some (rawInt _))=true then _ else _) Q E s;rw[Oh (by intro h;rw[hn,Pk]at h;cases h)];exact PF hQ))
def lg (K:Fg)(a:Q2):It:=⟨λi H=>∃ xs x,ao K H a xs/\xs[i]?=some x,λi H x H'=>H'=H/\∀ xs,ao K H a xs->xs[i]?=some x,λi H=>∃ xs,ao K H a xs/\xs.length<=i⟩
def uX (K:Fg)(a:Q2):It:=⟨λi H=>∃ xs x,aB K H a xs/\xs[i]?=some x,λi H x H'=>H'=H/\∀ xs,aB K H a xs->xs[i]?=some x,λi H=>∃ xs,aB K H a xs/\xs.length<=i⟩
def k_ (lo:Int)(n:Nat):It:=⟨λi _=>i<n,λi H x H'=>H'=H/\x=.int (lo+i),λi _=>n<=i⟩
theorem K3(a it:Q2):iC P w K tg (lg K a) [it] it (λi h=>h.IsListIter it a i) where
 mem:=by simp
 obj:=λi h st b hb=>by
  have e:b=it:=by simpa using hb
  subst e;obtain⟨o,e,c,d⟩:=st;exact⟨o,e,λv z=>by rw[d]at z;cases z⟩
 keep:=λi h h' st k=>st.at λo e=>k it (by simp) o e;item:=by
  intro X hP hw hK hc i P6 s σ H E I hf st hg;subst hP hw hK;obtain⟨xs,x,hq,hx⟩:=hg;obtain⟨its,rv,p,hz⟩:=I.list hq;obtain⟨u,hu,ru⟩:=rv.get hx;obtain⟨f0,f1,f2,f3,f4,f5⟩:=hf it (by simp);refine wpAny_pyNext_list_item st p.isList (x:=u) (by simpa using hu) λh' st' sb=>?_;have I1:am X P6 σ H {s with heap:=h'}:=I.turned (t':=s.toks) (λb o hb e=>(sb.2 b hb).trans e) f0 f1 f3 f4 f5;obtain⟨o,e,c,d⟩:=id st';exact⟨u,rfl,vk (s:={s with heap:=h'}) e c d (by decide) ⟨x,H,I1,ru,⟨rfl,λys hy=>by rw[I.list_inj hy hq];exact hx⟩,st',λb hb=>(hf b hb).1⟩⟩
 done:=by
  intro X hP hw hK hc i P6 s σ H E I hf st hg;subst hP hw hK;obtain⟨xs,hq,hx⟩:=hg;obtain⟨its,rv,p,hz⟩:=I.list hq;obtain⟨f0,f1,f2,f3,f4,f5⟩:=hf it (by simp);have hl:=rv.length;exact wpAny_pyNext_list_end (I.ok.hd hc) st p.isList (by simp;omega) λh' eb=>⟨rfl,I.turned (t':=s.toks) (λb o hb e=>eb b o hb e) f0 f1 f3 f4 f5⟩
 self:=λ_ _ _ _ _ st h=>wpAny_pyIter_listiter st h
theorem Lp(a it:Q2):iC P w K tg (uX K a) [it] it (λi h=>h.IsTupleIter it a i) where
 mem:=by simp
 obj:=λi h st b hb=>by
  have e:b=it:=by simpa using hb
  subst e;obtain⟨o,e,c,d⟩:=st;exact⟨o,e,λv z=>by rw[d]at z;cases z⟩
 keep:=λi h h' st k=>st.at λo e=>k it (by simp) o e;item:=by
  intro X hP hw hK hc i P6 s σ H E I hf st hg;subst hP hw hK;obtain⟨xs,x,hq,hx⟩:=hg;obtain⟨its,rv,p,hz⟩:=I.tuple hq;obtain⟨u,hu,ru⟩:=rv.get hx;obtain⟨f0,f1,f2,f3,f4,f5⟩:=hf it (by simp);refine wpAny_pyNext_tuple_item st (show s.heap.IsTuple a its.toArray from p) (x:=u) (by simpa using hu) λh' st' sb=>?_;have I1:am X P6 σ H {s with heap:=h'}:=I.turned (t':=s.toks) (λb o hb e=>(sb.2 b hb).trans e) f0 f1 f3 f4 f5;obtain⟨o,e,c,d⟩:=id st';exact⟨u,rfl,vk (s:={s with heap:=h'}) e c d (by decide) ⟨x,H,I1,ru,⟨rfl,λys hy=>by rw[I.tuple_inj hy hq];exact hx⟩,st',λb hb=>(hf b hb).1⟩⟩
 done:=by
  intro X hP hw hK hc i P6 s σ H E I hf st hg;subst hP hw hK;obtain⟨xs,hq,hx⟩:=hg;obtain⟨its,rv,p,hz⟩:=I.tuple hq;obtain⟨f0,f1,f2,f3,f4,f5⟩:=hf it (by simp);have hl:=rv.length;exact wpAny_pyNext_tuple_end (I.ok.hd hc) st (show s.heap.IsTuple a its.toArray from p) (by simp;omega) λh' eb=>⟨rfl,I.turned (t':=s.toks) (λb o hb e=>eb b o hb e) f0 f1 f3 f4 f5⟩
 self:=λ_ _ _ _ _ st h=>wpAny_pyIter_tupleiter st h
theorem Lo(it:Q2)(lo:Int)(n:Nat):iC P w K tg (k_ lo n) [it] it (λi h=>IsRangeIter h it (lo+(i:Nat)*1) ((n:Int) - (i:Nat)) 1) where
 mem:=by simp
 obj:=λi h st b hb=>by
  have e:b=it:=by simpa using hb
  subst e;exact⟨_,st,λv z=>by
   have z':Data.fields _=Data.cell v:=z;cases z'⟩
 keep:=λi h h' st k=>k it (by simp) _ st;item:=by
  intro X hP hw hK hc i P6 s σ H E I hf st hg;subst hP hw hK;obtain⟨f0,f1,f2,f3,f4,f5⟩:=hf it (by simp);have W:=Walks.range (prog:=X.prog) (w:=X.w) (I.ok.hd hc) it lo 1 n;refine W.item i s _ _ hg st λv h' tk hv st' kk=>?_;obtain⟨t,rfl⟩:=hv;have I1:am X P6 σ H {s with heap:=h',toks:=tk}:=I.turned (λb o hb e=>kk b o (by simpa using hb) e) f0 f1 f3 f4 f5;refine⟨_,rfl,vk (s:={s with heap:=h',toks:=tk}) (n:="range_iterator") st' rfl rfl (by decide) ⟨.int (lo+i),H,I1,⟨t,?_⟩,⟨rfl,rfl⟩,st',λb hb=>(hf b hb).1⟩⟩;rw[Int.mul_one]
 done:=by
  intro X hP hw hK hc i P6 s σ H E I hf st hg;subst hP hw hK;obtain⟨f0,f1,f2,f3,f4,f5⟩:=hf it (by simp);exact wpAny_pyNext_range_end (I.ok.hd hc) st (by have:n<=i:=hg;omega) λh' eb=>⟨rfl,I.turned (t':=s.toks) (λb o hb e=>eb b o hb e) f0 f1 f3 f4 f5⟩
 self:=λ_ _ _ _ _ st h=>wpAny_pyIter_rangeiter st h
variable {l:Expr}{tl:TE}{lo:Int}{p:Pos}{fp:Rz}
section
def vj (K:Fg)(tl:TE):TI:=λσ H R=>tl σ H λx H1=>∃ a,x=.ref a/\(∃ xs,ao K H1 a xs)/\R (lg K a) H1
def mU (K:Fg)(tl:TE):TI:=λσ H R=>tl σ H λx H1=>∃ a,x=.ref a/\(∃ xs,aB K H1 a xs)/\R (uX K a) H1
theorem HR(hl:PE X l tl):PI X tg l (vj X.K tl):=by
 intro P6 s σ H R I h;refine aL (hl P6 s σ H _ I h) λv s1 ⟨x,H1,I1,r1,q1⟩=>?_;obtain⟨a,e,⟨xs,hq⟩,q⟩:=q1;subst e;cases r1;obtain⟨its,rv,p,hz⟩:=I1.list hq;refine wpAny_pyIter_list p.isList ?_;refine⟨s1.heap.objs.size,[s1.heap.objs.size],_,_,H1,rfl,I1.kept (t':=s1.toks) λb o e=>PB _ e,K3 a _,⟨_,PJ _ rfl,rfl,rfl⟩,λb hb=>?_,q⟩;have e:b=s1.heap.objs.size:=by simpa using hb
 subst e;exact I1.fpOk (On _) (I1.hok.fresh (On _))
theorem Hm(hl:PE X l tl):PI X tg l (mU X.K tl):=by
 intro P6 s σ H R I h;refine aL (hl P6 s σ H _ I h) λv s1 ⟨x,H1,I1,r1,q1⟩=>?_;obtain⟨a,e,⟨xs,hq⟩,q⟩:=q1;subst e;cases r1;obtain⟨its,rv,p,hz⟩:=I1.tuple hq;refine wpAny_pyIter_tuple (show s1.heap.IsTuple a its.toArray from p) ?_;refine⟨s1.heap.objs.size,[s1.heap.objs.size],_,_,H1,rfl,I1.kept (t':=s1.toks) λb o e=>PB _ e,Lp a _,⟨_,PJ _ rfl,rfl,rfl⟩,λb hb=>?_,q⟩;have e:b=s1.heap.objs.size:=by simpa using hb
 subst e;exact I1.fpOk (On _) (I1.hok.fresh (On _))
theorem JN{R:It->Hp->Prop}{hi:Int}{t u v:Tok}{tk:Nat}(I:am X P6 σ H s)(h1:-(2 ^ 62)<=lo)(h2:lo<2 ^ 62)(h3:-(2 ^ 62)<=hi)(h4:hi<2 ^ 62)(q:R (k_ lo (hi - lo).toNat) H):RF (RK X.prog X.w) X.A (pyIter (.ref s.heap.objs.size)) (FG X P6 σ tg R) E {s with heap:=s.heap.push {cls:=.type "range",data:=.fields #[.int lo t,.int hi u,.int 1 v]},toks:=tk}:=by
 refine wpAny_pyIter_range (IsRange.new ..) (small_one h1 h2 h3 h4) ?_;have I1:am X P6 σ H {s with heap:=s.heap.push {cls:=.type "range",data:=.fields #[.int lo t,.int hi u,.int 1 v]},toks:=tk}:=I.kept λb o e=>PB _ e;refine⟨(s.heap.push {cls:=.type "range",data:=.fields #[.int lo t,.int hi u,.int 1 v]}).objs.size,[(s.heap.push {cls:=.type "range",data:=.fields #[.int lo t,.int hi u,.int 1 v]}).objs.size],_,_,H,rfl,
  I1.kept (t':=tk) λb o e=>PB _ e,Lo _ lo (hi - lo).toNat,?_,λb hb=>?_,q⟩
 ·have e1:lo+((0:Nat):Int)*1=lo:=by simp
  have e2:(((hi - lo).toNat:Nat):Int) - ((0:Nat):Int)=Builtin.Range.rangeSize lo hi 1:=by rw[rangeSize_one];split<;>omega
  show IsRangeIter _ _ (lo+((0:Nat):Int)*1) ((((hi - lo).toNat:Nat):Int) - ((0:Nat):Int)) 1;rw[e1,e2];exact PJ _ rfl
 ·have e:b=(s.heap.push {cls:=.type "range",data:=.fields #[.int lo t,.int hi u,.int 1 v]}).objs.size:=by simpa using hb
  subst e;exact I1.fpOk (On _) (I1.hok.fresh (On _))
def BL (ta:TA):TI:=λσ H R=>ta σ H λvs H1=>∃ j:Int,vs=[.int j]/\-(2 ^ 62)<=j/\j<2 ^ 62/\R (k_ 0 j.toNat) H1
theorem hU{a:Expr}{ta:TA}(hg:Gl X "range")(hm:X.mg "range"=none)(ha:PA X [a] ta)(hs:⇑(RE [a] X.env=[(false,RS a X.env)])):PI X tg (.Call (.Name "range" p) [a] [] pos) (BL ta):=by intro P6 s σ H R I h;refine Call_ (nX I hg hm boot_range (Se (aL (ha pos P6 s σ H _ I h) λus s1 ⟨vs,H1,I1,r1,q1⟩=>?_) hs rfl));obtain⟨j,e,q1,q2,q⟩:=q1;subst e;cases r1 with|cons r rr=>cases rr;obtain⟨t,rfl⟩:=r;exact call_range_1 (JN I1 (by omega) (by omega) q1 q2 (by simpa using q))
def qi (wi:TI)(g:TG)(tb:TS):TS:=λD σ H=>wi σ H λJ H1=>∃ W:Nat->Nat->St->Hp->Prop,(∃ m,W 0 m σ H1)/\∀ i m σ H,W i m σ H->
 (J.stop i H/\D.nx σ H)\/(J.go i H/\∃ N:St->Hp->Prop,(∀ σ' H',N σ' H'->∃ m',m'<m/\W (i+1) m' σ' H')/\∀ x H',J.yld i H x H'->g x σ H' λσ2 H2=>tb {D with nx:=N,ct:=N,bk:=D.nx} σ2 H2)
def ph (fp:Rz)(h:RW):RA:=fp.filterMap λb=>(h.get? b).map λo=>(b,o)
theorem uj{o:Obj}(hb:b∈fp)(e:h.get? b=some o):(b,o)∈ph fp h:=OY.mpr ⟨b,hb,by rw[e];rfl⟩
theorem K2{p:Q2×Obj}(hp:p∈ph fp h):p.1∈fp/\h.get? p.1=some p.2:=by obtain⟨b,hb,e⟩:=OY.mp hp;cases q:h.get? b with
 |none=>rw[q]at e;cases e|some o=>rw[q]at e;have e':(b,o)=p:=OL e;subst e';exact⟨hb,q⟩
theorem am.pinned(I:am X P6 σ H s)(hf:∀ b∈fp,cX X P6 H b)(ho:∀ b∈fp,∃ o,s.heap.get? b=some o/\∀ v,o.data≠.cell v):am X (P6++ph fp s.heap) σ H s:=I.pins_of λp hp=>(bW.mp hp).elim (λz=>I.pin p (Oz _ z)) λz=>by
  obtain⟨hb,e⟩:=K2 z;obtain⟨f0,f1,f2,_⟩:=hf p.1 hb;obtain⟨o,e',d⟩:=ho p.1 hb;rw[e]at e';cases e';exact⟨e,f0,f1,f2,d⟩
theorem am.unpinned{pl:RA}(I:am X (P6++pl) σ H s):am X P6 σ H s:=I.pins_of λp hp=>I.pin p (Oz _ (OK _ hp))
theorem gx{iter:Expr}{wi:TI}{tb:TS}(hp:PassesOwn (RK X.prog X.w) X.A X.env X.xe)(hc:X.calm=true)(hi:PI X tg iter wi)(hg:PG X tg g)(hb:fh X body tb)(hs:autoParam (∀ x,foldedSetIterable iter X.env x=So x) lR):PS X (.For tg iter body [] pos) (qi wi g tb):=by
 intro P6 s σ H D I h;refine wpAny_For (aL (hi P6 s σ H _ I h) λv s1 h1=>aL h1 λitv s2 h2=>?_) hs;obtain⟨it,fp,tn,J,H2,e,I2,T,st2,f2,W,⟨m0,w0⟩,turn⟩:=h2;subst e;have stat:∀{H':Hp},(∀ b∈fp,H' b=none)->∀ b∈fp,cX X P6 H' b:=λhn b hb=>⟨hn b hb,(f2 b hb).2⟩;refine codeAny_forLoop_any (λn s'=>∃ i σ' H',am X P6 σ' H' s'/\tn i s'.heap/\(∀ b∈fp,H' b=none)/\W i n σ' H') ?_ m0 ⟨0,σ,H2,I2,st2,λb hb=>(f2 b hb).1,w0⟩;rintro n s3 ⟨i,σ3,H3,I3,st3,fr3,w3⟩;rcases turn i n σ3 H3 w3 with⟨stop,qn⟩|⟨go,N,hN,step⟩
 ·refine PZ hp (aL (T.done X rfl rfl rfl hc i P6 s3 σ3 H3 X.xe I3 (stat fr3) st3 stop) λr s4 ⟨hr,I4⟩=>?_);subst hr;exact P0 ⟨σ3,H3,I4,qn⟩
 ·refine PZ hp (aL (T.item X rfl rfl rfl hc i P6 s3 σ3 H3 X.xe I3 (stat fr3) st3 go) λr s4 ⟨u,hr,h4⟩=>?_);subst hr;refine PZ hp (aL h4 λ_ s5 ⟨x,H5,I5,r5,y5,st5,fr5⟩=>?_);have I5':=I5.pinned (stat fr5) (T.obj _ _ st5);refine PZ hp (aL (hg _ s5 σ3 H5 x u _ I5' r5 (step x H5 y5)) λ_ s6 ⟨σ6,H6,I6,q6⟩=>?_);refine PZ hp (aL (hb _ s6 σ6 H6 _ I6 q6) λf s7 q7=>?_);have again:∀{σ7:St}{H7:Hp},am X (P6++ph fp s5.heap) σ7 H7 s7->N σ7 H7->∃ m,m<n/\∃ i σ' H',am X P6 σ' H' s7/\tn i s7.heap/\(∀ b∈fp,H' b=none)/\W i m σ' H':=λ{σ7 H7} I7 n7=>by obtain⟨m',hm,w7⟩:=hN σ7 H7 n7;refine⟨m',hm,i+1,σ7,H7,I7.unpinned,T.keep _ _ _ st5 λb hb o e=>(I7.pin (b,o) (Oz _ (Oz _ (uj hb e)))).1,λb hb=>?_,w7⟩;obtain⟨o,e,d⟩:=T.obj _ _ st5 b hb;exact(I7.pin (b,o) (Oz _ (Oz _ (uj hb e)))).2.1
  cases f with
  |next=>obtain⟨σ7,H7,I7,n7⟩:=q7;exact again I7 n7|cont=>obtain⟨σ7,H7,I7,n7⟩:=q7;exact again I7 n7|brk=>obtain⟨σ7,H7,I7,q7⟩:=q7;exact⟨σ7,H7,I7.unpinned,q7⟩|ret v=>obtain⟨x7,σ7,H7,I7,r7,q7⟩:=q7;exact⟨x7,σ7,H7,I7.unpinned,r7,q7⟩
end
theorem JM{tb:TS}{D:bG}(Pv:Nat->St->Hp->Prop)(h0:Pv 0 σ H)(hl:∀ i σ H,i<=xs.length->Pv i σ H->ao K H a xs)(hs:∀ i x σ H,xs[i]?=some x->Pv i σ H->g x σ H λσ2 H2=>tb {D with nx:=Pv (i+1),ct:=Pv (i+1),bk:=D.nx} σ2 H2)(hd:∀ σ H,Pv xs.length σ H->D.nx σ H):
  ∃ W:Nat->Nat->St->Hp->Prop,(∃ m,W 0 m σ H)/\∀ i m σ H,W i m σ H->
   ((lg K a).stop i H/\D.nx σ H)\/((lg K a).go i H/\∃ N:St->Hp->Prop,(∀ σ' H',N σ' H'->∃ m',m'<m/\W (i+1) m' σ' H')/\∀ x H',(lg K a).yld i H x H'->g x σ H' λσ2 H2=>tb {D with nx:=N,ct:=N,bk:=D.nx} σ2 H2):=by
 nomatch λi m σ H=>m=xs.length - i/\i<=xs.length/\Pv i σ H,⟨xs.length,by simp,O2 _,h0⟩;rintro i m σ H ⟨rfl,hi,p⟩;have q:=hl i σ H hi p;by_cases hlt:i<xs.length
 ·refine .inr ⟨⟨xs,xs[i],q,by simp[hlt]⟩,Pv (i+1),λσ' H' p'=>⟨xs.length - (i+1),by omega,rfl,hlt,p'⟩,λx H' y=>?_⟩;obtain⟨e,y⟩:=y;subst e;exact hs i x σ _ (y xs q) p
 ·have e:i=xs.length:=by omega
  subst e;exact .inl ⟨⟨xs,q,On _⟩,hd σ H p⟩
theorem K1{tb:TS}{D:bG}(Pv:Nat->St->Hp->Prop)(h0:Pv 0 σ H)(hs:∀ i σ H,i<n->Pv i σ H->g (.int (lo+i)) σ H λσ2 H2=>tb {D with nx:=Pv (i+1),ct:=Pv (i+1),bk:=D.nx} σ2 H2)(hd:∀ σ H,Pv n σ H->D.nx σ H):
  ∃ W:Nat->Nat->St->Hp->Prop,(∃ m,W 0 m σ H)/\∀ i m σ H,W i m σ H->
   ((k_ lo n).stop i H/\D.nx σ H)\/((k_ lo n).go i H/\∃ N:St->Hp->Prop,(∀ σ' H',N σ' H'->∃ m',m'<m/\W (i+1) m' σ' H')/\∀ x H',(k_ lo n).yld i H x H'->g x σ H' λσ2 H2=>tb {D with nx:=N,ct:=N,bk:=D.nx} σ2 H2):=by
 nomatch λi m σ H=>m=n - i/\i<=n/\Pv i σ H,⟨n,by simp,O2 _,h0⟩;rintro i m σ H ⟨rfl,hi,p⟩;by_cases hlt:i<n
 ·refine .inr ⟨hlt,Pv (i+1),λσ' H' p'=>⟨n - (i+1),by omega,rfl,hlt,p'⟩,λx H' y=>?_⟩;obtain⟨e,y⟩:=y;subst e y;exact hs i σ _ hlt p
 ·have e:i=n:=by omega
  subst e;exact .inl ⟨On _,hd σ H p⟩
abbrev R2:=V->V->Hp->VK->Prop
def cf (X:Cx)(f:be->be->Sem be)(r:R2):Prop:=∀(P6:RA) (s:RC) (σ:St) (H:Hp) (x y:V) (v u:be) (Q:VK),am X P6 σ H s->az x v->az y u->r x y H Q->
  RF (RK X.prog X.w) X.A (f v u) (EP X P6 σ Q) X.xe s
def zV (X:Cx)(f:be->Sem be)(r:V->Hp->VK->Prop):Prop:=∀(P6:RA) (s:RC) (σ:St) (H:Hp) (x:V) (v:be) (Q:VK),am X P6 σ H s->az x v->r x H Q->
  RF (RK X.prog X.w) X.A (f v) (EP X P6 σ Q) X.xe s
def dC (X:Cx)(f:be)(r:Ry->Hp->VK->Prop):Prop:=∀(P6:RA) (s:RC) (σ:St) (H:Hp) (xs:Ry) (us:List be) (Q:VK),am X P6 σ H s->ay xs us->r xs H Q->
  RF (RK X.prog X.w) X.A (call f us) (EP X P6 σ Q) X.xe s
def zW (X:Cx)(r:V->Hp->(Bool->Hp->Prop)->Prop):Prop:=∀(P6:RA) (s:RC) (σ:St) (H:Hp) (x:V) (v:be) (Q:Bool->Hp->Prop),am X P6 σ H s->az x v->r x H Q->
  RF (RK X.prog X.w) X.A (truthy v) (TP X P6 σ Q) X.xe s
def iu (r:R2)(ta tb:TE):TE:=λσ H Q=>ta σ H λx H1=>tb σ H1 λy H2=>r x y H2 Q
def Fx (r:V->Hp->VK->Prop)(ta:TE):TE:=λσ H Q=>ta σ H λx H1=>r x H1 Q
def rI (C:Int->Int->Prop)(g:Int->Int->V):R2:=λx y H Q=>∃ i j,x=.int i/\y=.int j/\C i j/\Q (g i j) H
def j6 (g:Int->Int->V):R2:=λx y H Q=>∃ i j,x=.int i/\y=.int j/\Q (g i j) H
def rU (g:Int->V):V->Hp->VK->Prop:=λx H Q=>∃ i,x=.int i/\Q (g i) H
variable {r:R2}
section
variable {a b:Expr}{tc:TE}
theorem mY(ha:PE X a ta)(hb:PE X b tb)(I:am X P6 σ H s)(h:ta σ H λx H1=>tb σ H1 λy H2=>R x y H2){f:be->be->Sem be}(hf:∀ v u s2 x y H2,am X P6 σ H2 s2->az x v->az y u->R x y H2->RF (RK X.prog X.w) X.A (f v u) Q X.xe s2):
  RF (RK X.prog X.w) X.A (RS a X.env) (λv s₁=>RF (RK X.prog X.w) X.A (RS b X.env) (λu s₂=>RF (RK X.prog X.w) X.A (f v u) Q X.xe s₂) X.xe s₁) X.xe s:=by refine aL (ha P6 s σ H _ I h) λv s1 ⟨x,H1,I1,r1,q1⟩=>?_;refine aL (hb P6 s1 σ H1 _ I1 q1) λu s2 ⟨y,H2,I2,r2,q2⟩=>?_;exact hf v u s2 x y H2 I2 r1 r2 q2
theorem aK{op:Operator}(ho:cf X (Sh op) r)(ha:PE X a ta)(hb:PE X b tb):PE X (.BinOp a op b pos) (iu r ta tb):=by intro P6 s σ H Q I h;exact wpAny_BinOp (mY ha hb I h λv u s2 x y H2 I2 rx ry q=>ho P6 s2 σ H2 x y v u Q I2 rx ry q)
theorem dG {op:UnaryOp}{r:V->Hp->VK->Prop}(ho:zV X (unaryOp op) r)(ha:PE X a ta):PE X (.UnaryOp op a pos) (Fx r ta):=by intro P6 s σ H Q I h;exact UnaryOp_ (aL (ha P6 s σ H _ I h) λv s1 ⟨x,H1,I1,r1,q1⟩=>ho P6 s1 σ H1 x v Q I1 r1 q1)
variable {g:Int->Int->Int}
theorem uI{f:be->be->Sem be}{C:Int->Int->Prop}(rule:∀(i j:Int) (t u:Tok) (s:RC) (Q:be->RC->Prop) (E:be->RC->Prop),C i j->Q (.int (g i j) s.toks) {s with toks:=s.toks+1}->RF (RK X.prog X.w) X.A (f (.int i t) (.int j u)) Q E s):
  cf X f (rI C λi j=>.int (g i j)):=by intro P6 s σ H x y v u Q I rx ry h;obtain⟨i,j,rfl,rfl,hc,q⟩:=h;obtain⟨t,rfl⟩:=rx;obtain⟨t',rfl⟩:=ry;exact rule i j t t' s _ _ hc ⟨.int (g i j),H,I.tok _,⟨_,rfl⟩,q⟩
theorem qM{f:be->be->Sem be}(rule:∀(i j:Int) (t u:Tok) (s:RC) (Q:be->RC->Prop) (E:be->RC->Prop),Q (.int (g i j) s.toks) {s with toks:=s.toks+1}->RF (RK X.prog X.w) X.A (f (.int i t) (.int j u)) Q E s):
  cf X f (j6 λi j=>.int (g i j)):=by intro P6 s σ H x y v u Q I rx ry h;obtain⟨i,j,rfl,rfl,q⟩:=h;obtain⟨t,rfl⟩:=rx;obtain⟨t',rfl⟩:=ry;exact rule i j t t' s _ _ ⟨.int (g i j),H,I.tok _,⟨_,rfl⟩,q⟩
theorem kR {f:be->be->Sem be}{g:Int->Int->Bool}
  (rule:∀(i j:Int) (t u:Tok) (s:RC) (Q:be->RC->Prop) (E:be->RC->Prop),Q (.bool (g i j)) s->RF (RK X.prog X.w) X.A (f (.int i t) (.int j u)) Q E s):
  cf X f (j6 λi j=>.bl (g i j)):=by intro P6 s σ H x y v u Q I rx ry h;obtain⟨i,j,rfl,rfl,q⟩:=h;obtain⟨t,rfl⟩:=rx;obtain⟨t',rfl⟩:=ry;exact rule i j t t' s _ _ ⟨.bl (g i j),H,I,rfl,q⟩
def sO (i j:Int):Prop:=0<j/\j<1073741824
def sN (i j:Int):Prop:=0<=j/\j<=1000000/\i.natAbs<2 ^ 64
def fY (i j:Int):Prop:=(-(2 ^ 64)<i/\i<2 ^ 64)\/(-(2 ^ 64)<j/\j<2 ^ 64)
theorem fY.ok {i j:Int}(h:fY i j):IntMulOk i j:=by
 rcases h with⟨h1,h2⟩|⟨h1,h2⟩
 ·exact .of_left (intBits_le_64 h1 h2)
 ·exact .of_right (intBits_le_64 h1 h2)
theorem Hl:cf X (Sh .Add) (j6 λi j=>.int (i+j)):=qM λ_ _ _ _ _ _ _ q=>add_int q
theorem jJ:cf X (Sh .Sub) (j6 λi j=>.int (i - j)):=qM λ_ _ _ _ _ _ _ q=>sub_int q
theorem Hk:cf X (Sh .Mult) (rI fY λi j=>.int (i*j)):=uI λ_ _ _ _ _ _ _ hc q=>mul_int q hc.ok
theorem cy:cf X (Sh .FloorDiv) (rI sO λi j=>.int (i/j)):=uI λi j _ _ _ _ _ hc q=>by have h1:(0:Int)<j:=hc.1;have h2:j<1073741824:=hc.2;exact floordiv_int (by omega) (by rw[Int.fdiv_eq_ediv_of_nonneg i (by omega)];exact q) (.inl (PyProof.noPylong_small (by omega)))
theorem cg:cf X (Sh .Mod) (rI (λ_ j=>0<j) λi j=>.int (i%j)):=uI λi j _ _ _ _ _ hc q=>by have h1:(0:Int)<j:=hc;exact mod_int' (by omega) (by rw[Int.fmod_eq_emod_of_nonneg i (by omega)];exact q)
theorem nU:cf X (Sh .Pow) (rI sN λi j=>.int (i ^ j.toNat)):=uI λ_ _ _ _ _ _ _ hc q=>pow_int_small hc.1 hc.2.1 hc.2.2 q
theorem N0 {f:be->Sem be}{g:Int->Int}
  (rule:∀(i:Int) (t:Tok) (s:RC) (Q:be->RC->Prop) (E:be->RC->Prop),Q (.int (g i) s.toks) {s with toks:=s.toks+1}->RF (RK X.prog X.w) X.A (f (.int i t)) Q E s):
  zV X f (rU λi=>.int (g i)):=by intro P6 s σ H x v Q I rx h;obtain⟨i,rfl,q⟩:=h;obtain⟨t,rfl⟩:=rx;exact rule i t s _ _ ⟨.int (g i),H,I.tok _,⟨_,rfl⟩,q⟩
theorem dL:zV X (unaryOp .USub) (rU λi=>.int (-i)):=N0 λ_ _ _ _ _ q=>neg_int q
end
noncomputable def qo:V->V->Bool|.non,.non=>true | .non,.int _=>true | .int _,.non=>true | .non,.bl _=>true | .bl _,.non=>true | .non,.str _=>true | .str _,.non=>true|.int _,.int _=>true | .bl _,.bl _=>true | .str _,.str _=>true | .byt _,.byt _=>true|.int _,.str _=>true | .str _,.int _=>true | .bl _,.str _=>true | .str _,.bl _=>true|_,_=>false
def FF:R2:=λx y H Q=>qo x y=true/\Q (.bl (decide (x=y))) H
def FE:R2:=λx y H Q=>qo x y=true/\Q (.bl (!decide (x=y))) H
theorem C4 {i j:Int}:decide (V.int i=V.int j)=(i==j):=by rw[Pa];simp
theorem Ca {i j:Bool}:decide (V.bl i=V.bl j)=(i==j):=by rw[Pa];simp
theorem C3 {i j:Str}:decide (V.str i=V.str j)=(i==j):=by rw[Pa];simp
theorem C2 {i j:Array UInt8}:decide (V.byt i=V.byt j)=(i.toList==j.toList):=by rw[Pa];cases i;cases j;simp
variable {r':R2}{op':CmpOp}
section
variable {a b:Expr}{tc:TE}
theorem cQ{Q:VK}{k k':Bool}(I:am X P6 σ H s)(q:Q (.bl k) H)(e:k=k'):EP X P6 σ Q (.bool k') s:=by subst e;exact⟨.bl k,H,I,rfl,q⟩
theorem qL:cf X (RO .Eq) FF:=by intro P6 s σ H x y v u Q I rx ry h;obtain⟨hs,q⟩:=h;cases x with
 |non=>cases rx;cases y with
  |non=>cases ry;exact PySem.EqNone.eq_none_none (cQ I q (by simp))|bl j=>cases ry;exact PySem.EqNone.eq_none_bool (cQ I q (by simp))|int j=>obtain⟨t',rfl⟩:=ry;exact PySem.EqNone.eq_none_int (cQ I q (by simp))|str j=>obtain⟨t',rfl⟩:=ry;exact PySem.EqNone.eq_none_str (cQ I q (by simp))|_=>exact OE (show false=true from hs) Ox
 |bl i=>cases rx;cases y with
  |non=>cases ry;exact PySem.EqNone.eq_bool_none (cQ I q (by simp))|bl j=>cases ry;exact eq_bool (cQ I q Ca)|str j=>obtain⟨t',rfl⟩:=ry;exact PySem.EqMixed.eq_bool_str (cQ I q (by simp))|_=>exact OE (show false=true from hs) Ox
 |int i=>obtain⟨t,rfl⟩:=rx;cases y with
  |non=>cases ry;exact PySem.EqNone.eq_int_none (cQ I q (by simp))|int j=>obtain⟨t',rfl⟩:=ry;exact eq_int (cQ I q C4)|str j=>obtain⟨t',rfl⟩:=ry;exact PySem.EqMixed.eq_int_str (cQ I q (by simp))|_=>exact OE (show false=true from hs) Ox
 |str i=>obtain⟨t,rfl⟩:=rx;cases y with
  |non=>cases ry;exact PySem.EqNone.eq_str_none (cQ I q (by simp))|bl j=>cases ry;exact PySem.EqMixed.eq_str_bool (cQ I q (by simp))|int j=>obtain⟨t',rfl⟩:=ry;exact PySem.EqMixed.eq_str_int (cQ I q (by simp))|str j=>obtain⟨t',rfl⟩:=ry;exact eq_str (cQ I q C3)|_=>exact OE (show false=true from hs) Ox
 |byt i=>obtain⟨t,rfl⟩:=rx;cases y with
  |byt j=>obtain⟨t',rfl⟩:=ry;exact PySem.W.eq_bytes (cQ I q C2)|_=>exact OE (show false=true from hs) Ox
 |_=>cases y<;>exact OE (show false=true from hs) Ox
theorem qK:cf X (RO .NotEq) FE:=by intro P6 s σ H x y v u Q I rx ry h;obtain⟨hs,q⟩:=h;cases x with
 |non=>cases rx;cases y with
  |non=>cases ry;exact PySem.EqNone.ne_none_none (cQ I q (by simp))|bl j=>cases ry;exact PySem.EqNone.ne_none_bool (cQ I q (by simp))|int j=>obtain⟨t',rfl⟩:=ry;exact PySem.EqNone.ne_none_int (cQ I q (by simp))|str j=>obtain⟨t',rfl⟩:=ry;exact PySem.EqNone.ne_none_str (cQ I q (by simp))|_=>exact OE (show false=true from hs) Ox
 |bl i=>cases rx;cases y with
  |non=>cases ry;exact PySem.EqNone.ne_bool_none (cQ I q (by simp))|bl j=>cases ry;exact ne_bool (cQ I q (congrArg not Ca))|str j=>obtain⟨t',rfl⟩:=ry;exact PySem.EqMixed.ne_bool_str (cQ I q (by simp))|_=>exact OE (show false=true from hs) Ox
 |int i=>obtain⟨t,rfl⟩:=rx;cases y with
  |non=>cases ry;exact PySem.EqNone.ne_int_none (cQ I q (by simp))|int j=>obtain⟨t',rfl⟩:=ry;exact ne_int (cQ I q (congrArg not C4))|str j=>obtain⟨t',rfl⟩:=ry;exact PySem.EqMixed.ne_int_str (cQ I q (by simp))|_=>exact OE (show false=true from hs) Ox
 |str i=>obtain⟨t,rfl⟩:=rx;cases y with
  |non=>cases ry;exact PySem.EqNone.ne_str_none (cQ I q (by simp))|bl j=>cases ry;exact PySem.EqMixed.ne_str_bool (cQ I q (by simp))|int j=>obtain⟨t',rfl⟩:=ry;exact PySem.EqMixed.ne_str_int (cQ I q (by simp))|str j=>obtain⟨t',rfl⟩:=ry;exact ne_str (cQ I q (congrArg not C3))|_=>exact OE (show false=true from hs) Ox
 |byt i=>obtain⟨t,rfl⟩:=rx;cases y with
  |byt j=>obtain⟨t',rfl⟩:=ry;exact PySem.W.ne_bytes (cQ I q (congrArg not C2))|_=>exact OE (show false=true from hs) Ox
 |_=>cases y<;>exact OE (show false=true from hs) Ox
theorem ko:cf X (RO .Lt) (j6 λi j=>.bl (decide (i<j))):=kR λ_ _ _ _ _ _ _ q=>lt_int q
theorem jD:cf X (RO .LtE) (j6 λi j=>.bl (decide (i<=j))):=kR λ_ _ _ _ _ _ _ q=>le_int q
theorem vi:cf X (RO .Gt) (j6 λi j=>.bl (decide (j<i))):=kR λ_ _ _ _ _ _ _ q=>gt_int q
theorem BK:cf X (RO .GtE) (j6 λi j=>.bl (decide (j<=i))):=kR λ_ _ _ _ _ _ _ q=>ge_int q
theorem lD:cf X (RO .Is) (λx y H Q=>y=.non/\Q (.bl (decide (x=.non))) H):=by intro P6 s σ H x y v u Q I rx ry h;obtain⟨rfl,q⟩:=h;cases ry;refine is_none_gen (cQ I q ?_);cases x<;>first|(cases rx;rfl)|(obtain⟨t,rfl⟩:=rx;rfl)
theorem wH:cf X (RO .IsNot) (λx y H Q=>y=.non/\Q (.bl (!decide (x=.non))) H):=by intro P6 s σ H x y v u Q I rx ry h;obtain⟨rfl,q⟩:=h;cases ry;refine isnot_none_gen (cQ I q ?_);cases x<;>first|(cases rx;rfl)|(obtain⟨t,rfl⟩:=rx;rfl)
theorem cf.or{f:be->be->Sem be}(h:cf X f r)(h':cf X f r'):cf X f (λx y H Q=>r x y H Q\/r' x y H Q):=by
 intro P6 s σ H x y v u Q I rx ry q;rcases q with q|q
 ·exact h P6 s σ H x y v u Q I rx ry q
 ·exact h' P6 s σ H x y v u Q I rx ry q
theorem tu(b:Expr)(h:↥(op≠.In))(h2:↥(op≠.NotIn)):Ss op b=false:=by
 have e1:(op==CmpOp.In)=false:=by cases op<;>first|rfl|exact OE rfl h
 have e2:(op==CmpOp.NotIn)=false:=by cases op<;>first|rfl|exact OE rfl h2
 cases b<;>simp[Ss,e1,e2]
theorem C1(ho:cf X (RO op) r)(ha:PE X a ta)(hb:PE X b tb)(hm:Ss op b=false):PE X (.Compare a [op] [b] pos) (iu r ta tb):=by intro P6 s σ H Q I h;exact wpAny_Compare1 (mY ha hb I h λv u s2 x y H2 I2 rx ry q=>ho P6 s2 σ H2 x y v u Q I2 rx ry q) hm
def oX (t:TE):TT:=λσ H Q=>t σ H λx H'=>∃ k,x=.bl k/\Q k H'
theorem C0(ho:cf X (RO op) r)(ha:PE X a ta)(hb:PE X b tb)(hm:Ss op b=false):PT X (.Compare a [op] [b] pos) (oX (iu r ta tb)):=by
 intro P6 s σ H Q I h;refine wpAny_isTrue_Compare1 (aL (ha P6 s σ H _ I h) λv s1 ⟨x,H1,I1,r1,q1⟩=>aL (hb P6 s1 σ H1 _ I1 q1) λu s2 ⟨y,H2,I2,r2,q2⟩=>aL (ho P6 s2 σ H2 x y v u _ I2 r1 r2 q2) λc s3 ⟨z,H3,I3,r3,k,e,q3⟩=>?_) hm
 subst e;cases r3;exact PP ⟨H3,I3,q3⟩
def vS (r r':R2)(ta tb tc:TE):TE:=λσ H Q=>ta σ H λx H1=>tb σ H1 λy H2=>r x y H2 λz H3=>∃ k,z=.bl k/\
 (if k=true then tc σ H3 λw' H4=>r' y w' H4 Q else Q (.bl false) H3)
theorem tV(ho:cf X (RO op) r)(ho':cf X (RO op') r')(ha:PE X a ta)(hb:PE X b tb)(hc:PE X c tc)(hm:autoParam (lastMarks [op,op'] [b,c]=false) Fw):PE X (.Compare a [op,op'] [b,c] pos) (vS r r' ta tb tc):=by
 intro P6 s σ H Q I h;refine Compare_chain (aL (ha P6 s σ H _ I h) λv s1 ⟨x,H1,I1,r1,q1⟩=>chain_link (aL (hb P6 s1 σ H1 _ I1 q1) λu s2 ⟨y,H2,I2,r2,q2⟩=>aL (ho P6 s2 σ H2 x y v u _ I2 r1 r2 q2) λd s3 ⟨z,H3,I3,r3,k,e,q3⟩=>?_)) hm
 subst e;cases r3;refine PP ?_;cases k with
 |false=>exact ite_ff ⟨.bl false,H3,I3,rfl,q3⟩|true=>exact ite_tt (chain_last (aL (hc P6 s3 σ H3 _ I3 q3) λw' s4 ⟨z',H4,I4,r4,q4⟩=>ho' P6 s4 σ H4 y z' u w' Q I4 r2 r4 q4))
theorem Dx(ho:cf X (RO op) r)(ho':cf X (RO op') r')(ha:PE X a ta)(hb:PE X b tb)(hc:PE X c tc)(hm:autoParam (lastMarks [op,op'] [b,c]=false) Fw):PT X (.Compare a [op,op'] [b,c] pos) (oX (vS r r' ta tb tc)):=by
 intro P6 s σ H Q I h;refine isTrue_chain (aL (ha P6 s σ H _ I h) λv s1 ⟨x,H1,I1,r1,q1⟩=>test_link (aL (hb P6 s1 σ H1 _ I1 q1) λu s2 ⟨y,H2,I2,r2,q2⟩=>aL (ho P6 s2 σ H2 x y v u _ I2 r1 r2 q2) λd s3 ⟨z,H3,I3,r3,k,e,q3⟩=>?_)) hm
 subst e;cases r3;refine PP ?_;cases k with
 |false=>obtain⟨k',e',q'⟩:=q3;cases e';exact ite_ff ⟨H3,I3,q'⟩|true=>refine ite_tt (test_last (aL (hc P6 s3 σ H3 _ I3 q3) λw' s4 ⟨z',H4,I4,r4,q4⟩=>aL (ho' P6 s4 σ H4 y z' u w' _ I4 r2 r4 q4) λd' s5 ⟨z2,H5,I5,r5,k2,e2,q5⟩=>?_));subst e2;cases r5;exact PP ⟨H5,I5,q5⟩
def jr (K:Fg)(x:V)(H:Hp)(k:Bool):Prop:=match x with|.non=>k=false|.bl b=>k=b|.int i=>k=(i !=0)|.str y=>y.length<=sizeLine/\k=((y.length:Int) !=0)|.byt y=>y.size<=sizeLine/\k=((y.size:Int) !=0)|.ref p=>(∃ xs,ao K H p xs/\k=!xs.isEmpty)\/(∃ xs,aB K H p xs/\k=!xs.isEmpty)\/∃ kvs,H p=some (.dK kvs)/\k=!kvs.isEmpty|_=>False
theorem Lm {κ:Type}{kvs:List (κ×V)}{vs:List (κ×be)}(r:KV kvs vs):(!vs.isEmpty)=!kvs.isEmpty:=by cases r<;>rfl
theorem Ez{its:List be}(r:ay xs its):(!its.toArray.isEmpty)=!xs.isEmpty:=by cases r<;>simp
theorem nS:(sizeLine:Nat)<2 ^ 63:=by rw[sizeLine_eq];decide
theorem Hj:zW X (λx H Q=>∃ k,jr X.K x H k/\Q k H):=by intro P6 s σ H x v Q I rx h;obtain⟨k,e,q⟩:=h;have hl:=nS;have hs:sizeLine=16777216:=sizeLine_eq;cases x with
 |non=>cases rx;have e':k=false:=e;subst e';exact truthy_none ⟨H,I,q⟩|bl b=>cases rx;have e':k=b:=e;subst e';exact PP ⟨H,I,q⟩|int i=>obtain⟨t,rfl⟩:=rx;have e':k=(i !=0):=e;subst e';exact PySem.P.truthy_int ⟨H,I,q⟩|str y=>obtain⟨t,rfl⟩:=rx;obtain⟨hy,e'⟩:y.length<=sizeLine/\k=((y.length:Int) !=0):=e;subst e';exact PySem.P.truthy_str (by omega) ⟨H,I.tok _,q⟩|byt y=>obtain⟨t,rfl⟩:=rx;obtain⟨hy,e'⟩:y.size<=sizeLine/\k=((y.size:Int) !=0):=e;subst e';exact PySem.W.truthy_bytes (by omega) ⟨H,I.tok _,q⟩|ref p=>
  cases rx;have e':(∃ xs,ao X.K H p xs/\k=!xs.isEmpty)\/(∃ xs,aB X.K H p xs/\k=!xs.isEmpty)\/∃ kvs,H p=some (.dK kvs)/\k=!kvs.isEmpty:=e;rcases e' with⟨xs,hx,e'⟩|⟨xs,hx,e'⟩|⟨kvs,hx,e'⟩
  ·subst e';obtain⟨its,r,pl,hz⟩:=I.list hx;have hlen:=r.length;exact wpAny_truthy_list pl.isList (by simp only[bL];omega) ⟨H,I.tok _,by rw[Ez r];exact q⟩
  ·subst e';obtain⟨its,r,pl,hz⟩:=I.tuple hx;have hlen:=r.length;exact truthy_tuple pl (by simp only[bL];omega) ⟨H,I.tok _,by rw[Ez r];exact q⟩
  ·subst e';obtain⟨hz,hS,vs,r,m⟩:kvs.length<=sizeLine/\(p==Sl)=false/\∃ vs,KV kvs vs/\s.heap.DictOf (eh X.prog X.w) p vs:=I.hok p _ hx;have hlen:kvs.length=vs.length:=Paired.length r;exact wpAny_truthy_dict hS m (by omega) ⟨H,I.tok _,by rw[Lm r];exact q⟩|_=>exact(show False from e).elim
theorem JL (ha:PE X a ta)(he:∀ Ql,isTrue a X.env Ql=(do let v<-Ql;standAt a.pos;holding [v] (truthy v))):
  PT X a (λσ H Q=>ta σ H λx H'=>∃ k,jr X.K x H' k/\Q k H'):=by intro P6 s σ H Q I h;exact isTrue_plain (aL (ha P6 s σ H _ I h) λv s1 ⟨x,H1,I1,r1,q1⟩=>Hj P6 s1 σ H1 x v Q I1 r1 q1) (he _)
variable {x:V}
theorem jB(r:ay [x] us):∃ u,us=[u]/\az x u:=by cases r with|cons r1 r2=>cases r2;exact⟨_,rfl,r1⟩
theorem vh(r:ay [x,y] us):∃ u w',us=[u,w']/\az x u/\az y w':=by cases r with|cons r1 r2=>cases r2 with|cons r3 r4=>cases r4;exact⟨_,_,rfl,r1,r3⟩
theorem K0 (hc:X.calm=true):dC X (.builtin "max") (λxs H Q=>∃ i j,xs=[.int i,.int j]/\Q (.int (if j>i then j else i)) H):=by
 intro P6 s σ H xs us Q I r h;obtain⟨i,j,rfl,q⟩:=h;obtain⟨u,w',rfl,⟨t,rfl⟩,⟨t',rfl⟩⟩:=vh r;refine max_two_ints (I.ok.hd hc) λh' tk k=>⟨_,H,I.kept k,?_,q⟩;by_cases hj:j>i
 ·rw[Ol hj,Ol hj];exact⟨_,rfl⟩
 ·rw[Oh hj,Oh hj];exact⟨_,rfl⟩
theorem KZ (hc:X.calm=true):dC X (.builtin "min") (λxs H Q=>∃ i j,xs=[.int i,.int j]/\Q (.int (if j<i then j else i)) H):=by
 intro P6 s σ H xs us Q I r h;obtain⟨i,j,rfl,q⟩:=h;obtain⟨u,w',rfl,⟨t,rfl⟩,⟨t',rfl⟩⟩:=vh r;refine min_two_ints (I.ok.hd hc) λh' tk k=>⟨_,H,I.kept k,?_,q⟩;by_cases hj:j<i
 ·rw[Ol hj,Ol hj];exact⟨_,rfl⟩
 ·rw[Oh hj,Oh hj];exact⟨_,rfl⟩
theorem Lg:dC X (.type "int") (λxs H Q=>(∃ i,xs=[.int i]/\Q (.int i) H)\/∃ k,xs=[.bl k]/\Q (.int (if k then 1 else 0)) H):=by
 intro P6 s σ H xs us Q I r h;rcases h with⟨i,rfl,q⟩|⟨k,rfl,q⟩
 ·obtain⟨u,rfl,t,rfl⟩:=jB r;exact call_int_int ⟨.int i,H,I,⟨_,rfl⟩,q⟩
 ·obtain⟨u,rfl,r1⟩:=jB r;cases r1;exact call_int_bool ⟨.int (if k then 1 else 0),H,I.tok _,⟨_,rfl⟩,q⟩
end
structure gR (h:RW)(x dx C:Q2)(mA:Str->Option be):Prop where
 obj:h.get? x=some (R5 C dx)
 ns:h.Ns1 dx mA
 ne:dx≠x
variable {dx:Q2}{mA:Str->Option be}
theorem Lf(n:h.Ns1 dx mA):∃ od,h.get? dx=some od/\∀ name,PySem.W.lookIn name od=some (mA name):=by
 obtain⟨o,es,ep,ho,hd,hk,_,hm⟩:=n;refine⟨o,ho,λname=>?_⟩;have e:=hm name;unfold nsFind findBy at e;rw[<-Array.find?_toList]at e;unfold PySem.W.lookIn;rw[hd];dsimp only;split
 ·rename_i y q;rw[q]at e;exact congrArg some e
 ·rename_i q;rw[q]at e;have a:es.toList.any (·.refKey)=false:=by rw[List.any_eq_false];intro y hy;obtain⟨z,t,hkey⟩:=hk y (Array.mem_toList_iff.mp hy);simp[DictEntry.refKey,hkey]
  have a':¬ es.toList.any (·.refKey)=true:=by rw[a];exact Ox
  rw[Oh a'];exact congrArg some e
variable {C:Q2}
theorem gR.look{x:Q2}(I:gR h x dx C mA):∃ od,PySem.W.InstAt h x (R5 C dx) C (some od)/\∀ name,PySem.W.lookIn name od=some (mA name):=let ⟨od,ho,hl⟩:=Lf I.ns;⟨od,⟨I.obj,rfl,rfl,ho⟩,hl⟩
variable {pl:Sem Bool}{kw:List (Str×be)}{prog:RP}{name:Str}
section
variable {x f:Q2}{v:be}
theorem HQ{expr:Bool}(X:K.In s.heap)(I:gR s.heap x dx C mA)(hg:R0 K C name=true)(hh:R6 K C=true)(ha:RG K (.ref C) name=some none)(hv:mA name=some v)(hv':PySem.W.handedIn v=true)(h:Q v {s with toks:=s.toks+1}):
  RF (RK prog w) A (getAttr (.ref x) name expr) Q E s:=by obtain⟨od,J,hl⟩:=I.look;exact PySem.W.get_value X J (PySem.W.plainGet_of hg).1 (PySem.W.findObj_own hh ha rfl (by rw[hl,hv])) hv' h
theorem JK{Q:be×List be->RC->Prop}(X:K.In s.heap)(I:gR s.heap x dx C mA)(hg:R0 K C name=true)(hf:RG K (.ref C) name=some (some (.ref f)))(ht:RH K (.ref f)=true)(hv:mA name=none)(h:Q (.ref f,[.ref x]) s):
  RF (RK prog w) A (getMethod (.ref x) name pl) Q E s:=by obtain⟨od,J,hl⟩:=I.look;exact PySem.W.method_fn X J (PySem.W.plainGet_of hg).1 (PySem.W.plainGet_of hg).2 hf (Pd.mp ht) (by show(PySem.W.lookIn name od).map (·.isSome)=some false;rw[hl,hv];rfl) h
theorem HN {ns:List Str}{Q:Unit->RC->Prop}(X:K.In s.heap)(I:gR s.heap x dx C mA)
  (hs:RG K (.ref C) "__setattr__"=some (some (.builtin "object.__setattr__"))) (hp:Si K C=true) (ht:PySem.W.takerIn K C name=some none) (hh:R6 K C=true)
  (hw:PySem.Within mA ns) (hsz:ns.length<=sizeLine)
  (h:∀ h',gR h' x dx C (λy=>if y=name then some v else mA y)->Heap.SameBut dx s.heap h'->Q () {s with heap:=h',toks:=s.toks+2}):
  RF (RK prog w) A (setAttr (.ref x) name v) Q E s:=by obtain⟨od,J,hl⟩:=I.look;refine PySem.W.set_plain X J hs (PySem.W.osa_open (s:={s with toks:=s.toks+1}) (r:=none) X J hp ht λb=>?_);obtain⟨cd,hc,hd'⟩:=PySem.W.any_some hh;have hx:s.heap.get? x=some ⟨.ref C,some dx,.plain,#[]⟩:=I.obj;refine Pz (PF (Pz (Pz (wpAny_loadPart hx (Pz (PySem.W.Looks.here (s:={s with toks:=s.toks+1}) (PySem.W.looks_clsIn X hc) ?_))))));rw[hd'];refine PF (a:=some dx) (Pz (PF (Pz ?_)));refine wpAny_nsSet1 (s:={s with toks:=s.toks+1}) I.ns λh' hn2 hs2=>?_;obtain⟨oD,esD,epD,hoD,hdD,hcD⟩:=hn2.count (PySem.Within.cons name v hw);refine Pz (wpAny_lookBehind hoD (by rw[hdD];exact pastItsLine_dict (OI hcD (by rw[OC];omega))) ?_);exact PF (h _ ⟨(hs2.2 _ (R7 I.ne)).trans I.obj,hn2,I.ne⟩ hs2)
theorem Dw{R:Result->RC->Prop}{vs:List be}(X:K.In s.heap)(hm:PySem.W.makesIn K C=true)(hi:RG K (.ref C) "__init__"=some (some (.ref f)))(hf:PySem.W.typeIn K (.ref f)=some (.type "function"))(h:codeAny (RK prog w) (A.under (.builtin "type.__call__" ⟨.ref C::vs,kw⟩)) (.call (.ref f) ⟨.ref (s.heap.objs.size+1)::vs,kw⟩) (PySem.W.InitBack (s.heap.objs.size+1) R)
   {s with heap:=(s.heap.push RV).push (R5 C s.heap.objs.size)}):
  codeAny (RK prog w) A (.call (.ref C) ⟨vs,kw⟩) R s:=by obtain⟨hh,g,d,t,os⟩:=s;exact PySem.W.make_core (PySem.W.makes_of X hm) (PySem.W.looks_findIn X hi) (λself=>PySem.W.bind_fn X self hf) (.inl rfl) h
end
noncomputable def ar (f:Str) (v:V):List (Str×V)->List (Str×V)|[]=>[(f,v)]|(g,x)::r=>if g=f then(g,v)::r else(g,x)::ar f v r
theorem fS (f g:Str)(v:V):∀ fs:List (Str×V),(ar f v fs).lookup g=if g=f then some v else fs.lookup g
 |[]=>by
  show RY g [(f,v)]=_;by_cases h:g=f
  ·have hb:(g==f)=true:=Pd.mpr h;simp only[RY,hb,Ol h]
  ·have hb:(g==f)=false:=O9.mpr h;simp only[RY,hb,Oh h]|(k,x)::r=>by
  have ih:=fS f g v r;rw[show ar f v ((k,x)::r)=(if k=f then(k,v)::r else(k,x)::ar f v r)from rfl];by_cases hk:k=f
  ·rw[Ol hk];by_cases h:g=k
   ·have hb:(g==k)=true:=Pd.mpr h;simp only[RY,hb,Ol (h.trans hk)]
   ·have hb:(g==k)=false:=O9.mpr h;simp only[RY,hb,Oh (λe:g=f=>h (e.trans hk.symm))]
  ·rw[Oh hk];by_cases h:g=k
   ·have hb:(g==k)=true:=Pd.mpr h;simp only[RY,hb,Oh (λe:g=f=>hk (h.symm.trans e))]
   ·have hb:(g==k)=false:=O9.mpr h;simp only[RY,hb];exact ih
theorem xp (f:Str)(v:V):∀ fs:List (Str×V),f∈(ar f v fs).map (·.1)/\∀ g,g∈fs.map (·.1)->g∈(ar f v fs).map (·.1)
 |[]=>⟨by simp[ar],λg h=>by simp at h⟩|(k,x)::r=>by
  obtain⟨i1,i2⟩:=xp f v r;rw[show ar f v ((k,x)::r)=(if k=f then(k,v)::r else(k,x)::ar f v r)from rfl];by_cases hk:k=f
  ·rw[Ol hk];subst hk;exact⟨by simp,λg h=>by simpa using h⟩
  ·rw[Oh hk];refine⟨?_,λg h=>?_⟩
   ·rw[bX];exact Oo _ i1
   ·rw[bX]at h ⊢;rcases Oe.mp h with e|e
    ·exact Oe.mpr (.inl e)
    ·exact Oo _ (i2 g e)
theorem xU (f:Str)(v:V):∀ fs:List (Str×V),(ar f v fs).length<=fs.length+1
 |[]=>by simp[ar]|(k,x)::r=>by
  have ih:=xU f v r;rw[show ar f v ((k,x)::r)=(if k=f then(k,v)::r else(k,x)::ar f v r)from rfl];by_cases hk:k=f
  ·rw[Ol hk,OC,OC];omega
  ·rw[Oh hk,OC,OC];omega
theorem cv.some_of{o:Option be}(r:cv (some v) o):∃ u,o=some u/\az v u:=by cases o with
 |none=>exact(show False from r).elim|some u=>exact⟨u,rfl,r⟩
theorem cv.none_of {o:Option be}(r:cv none o):o=none:=by cases o with
 |none=>rfl|some u=>exact(show False from r).elim
theorem Le(r:az v u):PySem.W.handedIn u=true:=by cases v with
 |non=>cases(show u=Sb from r);rfl|bl b=>cases(show u=Value.bool b from r);rfl|int i=>obtain⟨t,e⟩:=(show ∃ t,u=Value.int i t from r);cases e;rfl|str x=>obtain⟨t,e⟩:=(show ∃ t,u=Value.str x t from r);cases e;rfl|byt b=>obtain⟨t,e⟩:=(show ∃ t,u=Value.bytes b t from r);cases e;rfl|flt b=>obtain⟨t,e⟩:=(show ∃ t,u=Value.float b t from r);cases e;rfl|ref a=>cases(show u=RI a from r);rfl|ty n=>cases(show u=Value.type n from r);rfl
section
variable {fs fs':List (Str×V)}
theorem tF (hok:dk P w H h)(e:H a=some (.ins C dx fs)):∃ mA,gR h a dx C mA/\(∀ f,cv (fs.lookup f) (mA f))/\PySem.Within mA (fs.map (·.1))/\fs.length<=1000/\H dx=some (.own a):=by obtain⟨d,z,ne,ob,mA,n,r,q⟩:=(show cS P w H h a (.ins C dx fs)from hok a _ e);exact⟨mA,⟨ob,n,ne⟩,r,q,z,d⟩
end
structure fH (K:Fg)(C:Q2):Prop where
 pg:R0 K C R4=true
 hd:R6 K C=true
 po:Si K C=true
 sa:RG K (.ref C) "__setattr__"=some (some (.builtin "object.__setattr__"))
theorem fH.get(c:fH K C)(f:Str):R0 K C f=true:=c.pg
def eL (K:Fg)(C:Q2)(f:Str):Prop:=RG K (.ref C) f=some none
theorem eL.taker{f:Str}(n:eL K C f):PySem.W.takerIn K C f=some none:=by unfold PySem.W.takerIn;rw[show RG K (.ref C) f=some none from n];rfl
structure bq (K:Fg)(C:Q2)(m:Str)(f:Q2):Prop where
 at_:RG K (.ref C) m=some (some (.ref f))
 fn:RH K (.ref f)=true
 kp:RU K (.ref f)=true
section
variable {fs:List (Str×V)}{f:Str}
theorem Ll{b:Bool}(I:am X P6 σ H s)(e:H a=some (.ins C dx fs))(c:fH X.K C)(n:eL X.K C f)(l:fs.lookup f=some v)(h:∀ u s',am X P6 σ H s'->az v u->Q u s'):RF (RK X.prog X.w) A (getAttr (.ref a) f b) Q E s:=by obtain⟨mA,O,r,_,_,_⟩:=tF I.hok e;obtain⟨u,hu,ru⟩:=cv.some_of (v:=v) (o:=mA f) (by rw[<-l];exact r f);exact HQ I.kIn O (c.get f) c.hd n hu (Le ru) (h u _ (I.tok _) ru)
theorem ui{m:Str}{g:Q2}{Q:be×List be->RC->Prop}(I:am X P6 σ H s)(e:H a=some (.ins C dx fs))(c:fH X.K C)(k:bq X.K C m g)(l:fs.lookup m=none)(h:Q (.ref g,[.ref a]) s):RF (RK X.prog X.w) A (getMethod (.ref a) m pl) Q E s:=by obtain⟨mA,O,r,_,_,_⟩:=tF I.hok e;have hn:mA m=none:=cv.none_of (by rw[<-l];exact r m);exact JK I.kIn O (c.get m) k.at_ k.fn hn h
theorem Lj{Q:Unit->RC->Prop}(I:am X P6 σ H s)(e:H a=some (.ins C dx fs))(c:fH X.K C)(n:eL X.K C f)(hl:fs.length<1000)(ry:az y u)(h:∀ s',am X P6 σ (upd H a (.ins C dx (ar f y fs))) s'->Q () s'):RF (RK X.prog X.w) A (setAttr (.ref a) f u) Q E s:=by
 obtain⟨mA,O,r,wi,_,ho⟩:=tF I.hok e;have hz:(fs.map (·.1)).length<=sizeLine:=by rw[aT,sizeLine_eq];omega
 refine HN I.kIn O c.sa c.po n.taker c.hd wi hz λh' O' sb=>h _ ?_;have hd:∃ o,h'.get? dx=some o:=let ⟨o,_,_,e',_⟩:=O'.ns;⟨o,e'⟩;refine I.write (x:=a) (e:=dx) (by rw[e];exact O8) (.inr ho) (λb q hb z=>(sb.2 b hb).trans z) hd ?_;refine⟨by rw[aC O.ne];exact ho,?_,O.ne,O'.obj,_,O'.ns,λg=>?_,λg hg=>?_⟩
 ·have:=xU f y fs;omega
 ·show cv ((ar f y fs).lookup g) (if g=f then some u else mA g);rw[fS];by_cases q:g=f
  ·rw[Ol q,Ol q];exact ry
  ·rw[Oh q,Oh q];exact r g
 ·by_cases q:g=f
  ·rw[q];exact(xp f y fs).1
  ·refine(xp f y fs).2 g (wi g λz=>hg ?_);show(if g=f then some u else mA g)=none;rw[Oh q];exact z
theorem am.made (I:am X P6 σ H s):am X P6 σ (upd (upd H s.heap.objs.size (.own (s.heap.objs.size+1))) (s.heap.objs.size+1) (.ins C s.heap.objs.size []))
  {s with heap:=(s.heap.push RV).push (R5 C s.heap.objs.size)}:=by
 have e1:(s.heap.push RV).get? s.heap.objs.size=some RV:=PJ s.heap rfl;have e2:((s.heap.push RV).push (R5 C s.heap.objs.size)).get? (s.heap.objs.size+1)=some (R5 C s.heap.objs.size):=by have:=PJ (s.heap.push RV) (o:=R5 C s.heap.objs.size) rfl;rwa [Heap.size_push]at this
 have e3:(s.heap.push RV).Ns s.heap.objs.size (λ_=>none):=⟨RV,#[],_,e1,rfl,(λe he=>OE he (by simp)),λ_=>rfl⟩;have I1:=I.laid (a:=s.heap.objs.size) (o:=.own (s.heap.objs.size+1)) (h':=s.heap.push RV) (t':=s.toks) (λb u q=>PB _ q) (On _) ⟨_,e1⟩;refine I1.laid (a:=s.heap.objs.size+1) (o:=.ins C s.heap.objs.size []) (t':=s.toks) (λb u q=>PB _ q) (Nat.le_of_eq (Heap.size_push _ _)) ?_;have ne:s.heap.objs.size≠s.heap.objs.size+1:=OH (Px _);refine⟨by rw[aC ne,aq],O2 _,ne,e2,λ_=>none,(Heap.Ns1.of_empty e3).at λo q=>PB _ q,λ_=>O8,λy hy=>OE rfl hy⟩
theorem HM{env:Env}{f:Str}(hb:attributeBase e f env (RS e env)=RS e env)(h:RF (RK prog w) A (RS e env) (λo s₁=>RF (RK prog w) A (getAttr o f true) Q E s₁) E s):RF (RK prog w) A (RS (.Attribute e f pos) env) Q E s:=Attribute_any_ h (by rw[arm_eval_Attribute,hb])
end
inductive m_ (K:Fg)(f:Str)(x:V)(H:Hp)(Q:VK):Prop|mk (a C dx:Q2) (fs:List (Str×V)) (v:V) (e:x=.ref a) (ea:H a=some (.ins C dx fs)) (c:fH K C) (n:eL K C f) (l:fs.lookup f=some v) (q:Q v H):m_ K f x H Q
inductive m8 (K:Fg)(f:Str)(y x:V)(H:Hp)(P:Hp->Prop):Prop|mk (a C dx:Q2) (fs:List (Str×V)) (e:x=.ref a) (ea:H a=some (.ins C dx fs)) (c:fH K C) (n:eL K C f) (l:fs.length<1000) (q:P (upd H a (.ins C dx (ar f y fs)))):m8 K f y x H P
def kP (K:Fg)(ta:TE)(f:Str):TE:=λσ H Q=>ta σ H λx H1=>m_ K f x H1 Q
def qq (K:Fg)(ta tv:TE)(f:Str):TS:=λD σ H=>tv σ H λy H1=>ta σ H1 λx H2=>m8 K f y x H2 (D.nx σ)
variable {apos:Pos}
section
variable {o value:Expr}{f:Str}{tpos:Pos}{tv:TE}
theorem Hi (he:PE X e ta)(hb:attributeBase e f X.env (RS e X.env)=RS e X.env):PE X (.Attribute e f pos) (kP X.K ta f):=by intro P6 s σ H Q I h;refine HM hb (aL (he P6 s σ H _ I h) λu s1 ⟨x,H1,I1,rx,a,C,dx,fs,v,ex,ea,c,n,l,q⟩=>?_);subst ex;obtain rfl:u=RI a:=rx;exact Ll I1 ea c n l λu' s2 I2 ru=>⟨v,H1,I2,ru,q⟩
theorem d0 (ha:PE X o ta)(hv:PE X value tv)(hs:swapsWith value (some (.Attribute o f pos')) pos.line X.env=So false):PS X (.Assign [.Attribute o f pos'] value pos) (qq X.K ta tv f):=by intro P6 s σ H D I h;refine plainObj_wpAny_Assign_Attribute (aL (hv P6 s σ H _ I h) λu s1 ⟨y,H1,I1,ry,q⟩=>aL (ha P6 s1 σ H1 _ I1 q) λov s2 ⟨x,H2,I2,rx,a,C,dx,fs,ex,ea,c,n,l,q2⟩=>?_) hs;subst ex;obtain rfl:ov=RI a:=rx;exact Lj I2 ea c n l ry λs3 I3=>⟨σ,_,I3,q2⟩
theorem Ob{m:Str}{args:List Expr}(he:PE X e te)(I:am X P6 σ H s)(h:te σ H λx H1=>∃ a C dx fs g,x=.ref a/\H1 a=some (.ins C dx fs)/\fH X.K C/\bq X.K C m g/\fs.lookup m=none/\
   ∀ s1,am X P6 σ H1 s1->RF (RK X.prog X.w) X.A (callWith pos (.ref g) [.ref a] (RZ pos (RE args X.env)) (backToKw pos (Sy [] X.env))) Q X.xe s1)(ht:RS (.Call (.Attribute e m apos) args [] pos) X.env=(do
   let ov<-RS e X.env
   standAt apos.atName
   let (f,first)<-holding [ov] (getMethod ov m pl)
   callWith pos f first (RZ pos (RE args X.env)) (backToKw pos (Sy [] X.env)))):
  RF (RK X.prog X.w) X.A (RS (.Call (.Attribute e m apos) args [] pos) X.env) Q X.xe s:=by refine PySem.W.methodCall_KW (pl:=pl) (aL (he P6 s σ H _ I h) λu s1 zz=>?_) ht;obtain⟨x,H1,I1,rx,a,C,dx,fs,g,ex,ea,c,k,l,q⟩:=zz;subst ex;obtain rfl:u=RI a:=rx;exact ui I1 ea c k l (q s1 I1)
end
section
variable {c:be}{b:Bool}
inductive dj (K:Fg)(H:Hp):V->be->Prop where|non:dj K H .non (.type "NoneType")|bl (x:Bool):dj K H (.bl x) (.type "bool")|int (i:Int):dj K H (.int i) (.type "int")|str (x:Str):dj K H (.str x) (.type "str")|flt (x:UInt64):dj K H (.flt x) (.type "float")|lst {a:Q2}{xs:Ry}(e:H a=some (.lst xs)):dj K H (.ref a) (.type "list")|frz {a:Q2}{o:Obj}{xs:Ry}(e:H a=some (.frz o (.lst xs))):dj K H (.ref a) (.type "list")|tup {a:Q2}{xs:Ry}(e:H a=some (.tup xs)):dj K H (.ref a) (.type "tuple")|dK {a:Q2}{kvs:List (bj×V)}(e:H a=some (.dK kvs)):dj K H (.ref a) (.type "dict")|dT {a:Q2}{kvs:List (List bj×V)}(e:H a=some (.dT kvs)):dj K H (.ref a) (.type "dict")|ins {a C dx:Q2}{fs:List (Str×V)}(e:H a=some (.ins C dx fs)) (cl:fH K C) (ha:RG K (.ref C) "__class__"=some (some (.builtin "object.__class__")))
   (hn:PySem.W.specialIn K (.builtin "object.__class__") "__get__"=some (some (.builtin "getset_descriptor.__get__"))) (htk:PySem.W.takesIn K (.builtin "object.__class__")=some true)
   (hm:PySem.W.mroIn K C (.type "object")=some true):dj K H (.ref a) (.ref C)
theorem Ld{x:V}{t:be}(I:am X P6 σ H s)(rx:az x u)(ty:dj X.K H x t)(e:PySem.W.kitOne X.K t c=some b)(h:∀ tk,Q (.bool b) {s with toks:=tk}):
  RF (RK X.prog X.w) A (call (.builtin "isinstance") [u,c]) Q E s:=by cases ty with
 |non=>cases(show u=Sb from rx);exact PQ PySem.W.kitx_none I.kIn O8 e (λz=>nomatch z) h|bl y=>cases(show u=Value.bool y from rx);exact PQ PySem.W.kitx_bool I.kIn O8 e (λz=>nomatch z) h|int i=>obtain⟨t,q⟩:=(show ∃ t,u=Value.int i t from rx);cases q;exact PQ PySem.W.kitx_int I.kIn O8 e (λz=>nomatch z) h|str y=>obtain⟨t,q⟩:=(show ∃ t,u=Value.str y t from rx);cases q;exact PQ PySem.W.kitx_str I.kIn O8 e (λz=>nomatch z) h|flt y=>obtain⟨t,q⟩:=(show ∃ t,u=Value.float y t from rx);cases q;exact PQ PySem.W.kitx_float I.kIn O8 e (λz=>nomatch z) h|@lst a xs ea=>cases(show u=RI a from rx);obtain⟨_,_,n,_,h1⟩:=(show cS X.prog X.w H s.heap a (.lst xs)from I.hok a _ ea);exact PQ PySem.W.kitx_list I.kIn ⟨_,h1,rfl⟩ e (λz=>nomatch z) h|@frz a ob xs ea=>cases(show u=RI a from rx);obtain⟨_,_,_,n,_,h1⟩:=(show cS X.prog X.w H s.heap a (.frz ob (.lst xs))from I.hok a _ ea);exact PQ PySem.W.kitx_list I.kIn ⟨_,h1,rfl⟩ e (λz=>nomatch z) h|@tup a xs ea=>cases(show u=RI a from rx);obtain⟨_,_,_,p⟩:=(show cS X.prog X.w H s.heap a (.tup xs)from I.hok a _ ea);obtain⟨o,h1,h2,_⟩:=p;exact PQ PySem.W.kitx_tuple I.kIn ⟨o,h1,h2⟩ e (λz=>nomatch z) h|@dK a kvs ea=>cases(show u=RI a from rx);obtain⟨_,_,vs,_,p⟩:=(show cS X.prog X.w H s.heap a (.dK kvs)from I.hok a _ ea);obtain⟨o,es,ep,h1,h2,_⟩:=p;exact PQ PySem.W.kitx_dict I.kIn ⟨o,h1,h2.1⟩ e (λz=>nomatch z) h|@dT a kvs ea=>cases(show u=RI a from rx);obtain⟨_,_,xs,_,o,es,ep,h1,h2,_⟩:=(show cS X.prog X.w H s.heap a (.dT kvs)from I.hok a _ ea);exact PQ PySem.W.kitx_dict I.kIn ⟨o,h1,h2.1⟩ e (λz=>nomatch z) h|@ins a C dx fs ea cl ha hn htk hm=>cases(show u=RI a from rx);obtain⟨mA,O,_⟩:=tF I.hok ea;obtain⟨od,J,_⟩:=O.look;exact PQ (PySem.W.kitx_own (cl.get _) cl.hd ha hn htk hm) I.kIn J e (λz=>nomatch z) h
end
structure aS (k:Nat)(A:Sn):Prop where
 hd:A.handled=none
 dp:A.depth+3*k+5<recursionLimit
 un:A.units+16*k+200<cLine
 gd:A.guards=some []
theorem aS.mono{k:Nat}(r:aS k A)(h:j<=k):aS j A:=⟨r.hd,by have:=r.dp;omega,by have:=r.un;omega,r.gd⟩
theorem aS.deeper{k:Nat}(r:aS (k+1) A)(env:Env):aS k (A.deeper env):=⟨r.hd,by have:=r.dp;show A.depth+1+3*k+5<_;omega,by have:=r.un;show A.units+3+16*k+200<_;omega,r.gd⟩
theorem Li:(A.under (.builtin "type.__call__" ⟨.ref C::us,kw⟩)).depth=A.depth+1:=by first|rfl|simp[Around.under,Code.weight,Code.isCreation,Code.isGuard,Code.isCaller,Code.frames,Code.isFrame,guardIds]
theorem Lh:(A.under (.builtin "type.__call__" ⟨.ref C::us,kw⟩)).units=A.units+1:=by first|rfl|simp[Around.under,Code.cUnits,Code.frames,Code.isFrame]
theorem Mo(h:A.guards=some []):(A.under (.builtin "type.__call__" ⟨.ref C::us,kw⟩)).guards=some []:=by simp[Around.under,Code.guards,Code.isGuard,guardIds,pushGuards,h]
theorem aS.make{k:Nat}(r:aS (k+1) A)(C:Q2)(us:List be)(kw:List (Str×be)):aS k (A.under (.builtin "type.__call__" ⟨.ref C::us,kw⟩)):=⟨r.hd,by have:=r.dp;rw[Li];omega,by have:=r.un;rw[Lh];omega,Mo r.gd⟩
theorem aS.depth{k:Nat}(r:aS k A):A.depth<recursionLimit:=by have:=r.dp;omega
theorem aS.units{k:Nat}(r:aS k A):A.units+64<cLine:=by have:=r.un;omega
def gK:TA:=λ_ H Q=>Q [] H
def eJ (ta:TE)(tr:TA):TA:=λσ H Q=>ta σ H λx H1=>tr σ H1 λxs H2=>Q (x::xs) H2
section
variable {t:TA}
theorem ag:PA X [] gK:=λ_ _ _ _ H Q I h=>Calls.spliced_nil ⟨[],H,I,.nil,h⟩
theorem dE (ha:PE X e te)(hr:PA X es t)(hs:⇑(RE (e::es) X.env=(false,RS e X.env)::RE es X.env)):PA X (e::es) (eJ te t):=by intro pos P6 s σ H Q I h;rw[hs];show RF _ _ (spliced ((false,RS e X.env)::RZ pos (RE es X.env))) _ _ s;refine Calls.spliced_cons (aL (ha P6 s σ H _ I h) λu s1 ⟨x,H1,I1,r1,q1⟩=>?_);exact aL (hr pos P6 s1 σ H1 _ I1 q1) λus s2 ⟨xs,H2,I2,r2,q2⟩=>⟨x::xs,H2,I2,.cons r1 r2,q2⟩
def qb (t:TA):TE:=λσ H Q=>t σ H λxs H1=>xs.length<=sizeLine/\∀ p,H1 p=none->Q (.ref p) (upd H1 p (.tup xs))
def mL (t:TA):TE:=λσ H Q=>t σ H λxs H1=>xs.length<=sizeLine/\∀ p,H1 p=none->Q (.ref p) (upd H1 p (.lst xs))
theorem b_ {x1}(h:PA X es t):PE X (.Tuple es x1 pos) (qb t):=by intro P6 s σ H Q I hq;refine wpAny_Tuple_spliced (aL (h pos P6 s σ H _ I hq) λus s1 ⟨xs,H1,I1,r,z,q⟩=>⟨by rw[<-r.length];exact z,?_⟩);have hf:H1 s1.heap.objs.size=none:=I1.hok.fresh (On _);refine⟨.ref s1.heap.objs.size,upd H1 s1.heap.objs.size (.tup xs),I1.laid (t':=s1.toks) (λb u e=>PB _ e) (On _) ?_,rfl,q _ hf⟩;exact⟨z,us,r,⟨_,PJ _ rfl,rfl,_,rfl⟩⟩
theorem bu (h:PA X es t):PE X (.List es pos) (mL t):=by intro P6 s σ H Q I hq;refine wpAny_List_spliced (aL (h pos P6 s σ H _ I hq) λus s1 ⟨xs,H1,I1,r,z,q⟩=>⟨by rw[<-r.length];exact z,?_⟩);have hf:H1 s1.heap.objs.size=none:=I1.hok.fresh (On _);refine⟨.ref s1.heap.objs.size,upd H1 s1.heap.objs.size (.lst xs),I1.laid (t':=s1.toks) (λb u e=>PB _ e) (On _) ?_,rfl,q _ hf⟩;exact⟨z,us,0,r,PJ _ rfl⟩
end
abbrev Sp:=Ry->Hp->VK->XK->Prop
abbrev ke:=List Env->Hp->RC->XK->be->RC->Prop
structure gU (P:RP)(w:R3)(K:Fg)(mg:Str->Option be)(base:RW)(A:Sn)(outer:List Env)(s:RC)(H:Hp):Prop where
 frames:A.frames=some outer
 mod:Mod K mg base
 bs:∀ b o,base.get? b=some o->s.heap.get? b=some o/\H b=none
 bsz:base.objs.size<=s.heap.objs.size
 funs:s.heap.FunFrames base outer
 frf:∀ b∈dQ outer,H b=none
 hok:dk P w H s.heap
 bare:AllBare s.gens
def CE (outer:List Env)(P:RP)(w:R3)(H:Hp)(s:RC)(Q:VK)(u:be)(s':RC):Prop:=∃ v H',s'.os=s.os/\AllBare s'.gens/\Un (dQ outer) [] H H' s.heap s'.heap/\dk P w H' s'.heap/\az v u/\Q v H'
def CR (CX:ke)(outer:List Env)(P:RP)(w:R3)(H:Hp)(s:RC)(Q:VK)(E:XK)(r:Result)(s':RC):Prop:=match r with|.ok (.ret u)=>CE outer P w H s Q u s'|.ok _=>False|.error e=>CX outer H s E e s'
structure ce (P:RP)(w:R3)(K:Fg)(mg:Str->Option be)(base:RW)(CX:ke)(k:Nat)(f:Q2)(fd:FuncData)(ps:List Str)(sp:Sp):Prop where
 len:∀ vs H Q E,sp vs H Q E->vs.length=ps.length
 run:∀(A:Sn) (outer:List Env) (s:RC) (H:Hp) (args:Args) (us:List be) (vs:Ry) (Q:VK) (E:XK),aS k A->gU P w K mg base A outer s H->BindsTo s fd args (ps.zip us)->ay vs us->sp vs H Q E->
  codeAny (RK P w) A (.call (.ref f) args) (CR CX outer P w H s Q E) s
variable {mg:Str->Option be}{base:RW}{CX:ke}{fd:FuncData}{sp:Sp}
theorem ce.mono{k:Nat}{f:Q2}{ps:List Str}(F:ce P w K mg base CX j f fd ps sp)(h:j<=k):
  ce P w K mg base CX k f fd ps sp:=⟨F.len,λA outer s H args us vs Q E hr=>F.run A outer s H args us vs Q E (hr.mono h)⟩
variable {outer:List Env}
theorem gU.make(e:gU P w K mg base A outer s H)(C:Q2)(us:List be)(kw:List (Str×be)):
  gU P w K mg base (A.under (.builtin "type.__call__" ⟨.ref C::us,kw⟩)) outer s H:=⟨by first|exact e.frames|(simpa[Around.under,Code.envs,Code.isFrame,pushEnvs]using e.frames),e.mod,e.bs,e.bsz,e.funs,e.frf,e.hok,e.bare⟩
section
theorem am.env0 (I:am X P6 σ H s):gU X.prog X.w X.K X.mg X.base X.A X.stack s H:=⟨I.ok.frames,I.ok.mod,I.bs,OI I.ok.bsz I.sz,I.stack,I.stkFree,I.hok,I.bare⟩
theorem am.after{Q:VK}(I:am X P6 σ H s)(h:CE X.stack X.prog X.w H s Q u s'):EP X P6 σ Q u s':=by obtain⟨v,H',os,bare,un,hok,r,q⟩:=h;obtain⟨hh,g,d,t,os'⟩:=s';obtain rfl:os'=s.os:=os;exact⟨v,H',I.call (h':=hh) (g':=g) (d':=d) (t':=t) (ch:=[]) un hok bare (λb z=>OE z (by simp)),r,q⟩
end
def nH (sp:Sp)(Qy:Ry)(E:XK)(t:TA):TE:=λσ H Q=>t σ H λvs H1=>sp (vs++Qy) H1 Q E
inductive ig (C:Q2)(m:Str)(x:V)(H:Hp)(P:Prop):Prop|mk (a dx:Q2) (fs:List (Str×V)) (e:x=.ref a) (ea:H a=some (.ins C dx fs)) (l:fs.lookup m=none) (q:P):ig C m x H P
def nG (C:Q2)(m:Str)(sp:Sp)(Qy:Ry)(E:XK)(ta:TE)(t:TA):TE:=λσ H Q=>ta σ H λx H1=>ig C m x H1 (t σ H1 λvs H2=>sp (x::(vs++Qy)) H2 Q E)
def mf (C:Q2)(sp:Sp)(Qy:Ry)(E:XK)(t:TA):TE:=λσ H Q=>t σ H λvs H1=>∀ x dx,H1 x=none->H1 dx=none->dx≠x->
 sp (.ref x::(vs++Qy)) (upd (upd H1 dx (.own x)) x (.ins C dx [])) (λv H2=>v=.non/\Q (.ref x) H2) E
def f_ (K:Fg)(fd:FuncData)(ps:List Str)(ds:List be):Prop:=∀(s:RC) (us:List be),K.In s.heap->(us++ds).length=ps.length->BindsTo s fd ⟨us,[]⟩ (ps.zip (us++ds))
theorem f_.all{ps:List Str}(h:∀ us:List be,us.length=ps.length->bindArgs fd ⟨us,[]⟩=So (ps.zip us)):f_ K fd ps []:=λs us _ hl=>by rw[OP]at hl ⊢;exact .of_eq (h us hl)
def im (CX:ke)(X:Cx)(E:XK):Prop:=∀(P6:RA) (σ:St) (H:Hp) (s:RC) (e:be) (s':RC),am X P6 σ H s->CX X.stack H s E e s'->X.xe e s'
variable {vs:Ry}
section
variable {k:Nat}{f:Q2}{ps:List Str}{Qy:Ry}{ds:List be}{E:XK}{m:Str}{o:Expr}{t:TA}
variable {Q:VK}
theorem vV(F:ce X.prog X.w X.K X.mg X.base CX k f fd ps sp)(hr:aS k X.A)(hb:f_ X.K fd ps ds)(hd:ay Qy ds)(hx:im CX X E)(I:am X P6 σ H s)(r:ay vs us)(h:sp (vs++Qy) H Q E):RF (RK X.prog X.w) X.A (call (.ref f) us) (EP X P6 σ Q) X.xe s:=by
 have r2:ay (vs++Qy) (us++ds):=r.append hd;have hl:(us++ds).length=ps.length:=by rw[<-r2.length];exact F.len _ _ _ _ h
 refine P5 (P3 (F.run X.A X.stack s H ⟨us,[]⟩ (us++ds) (vs++Qy) Q E hr I.env0 (hb s us I.kIn hl) r2 h) λr s' hq=>?_);cases r with
 |error e=>exact hx P6 σ H s e s' I hq|ok fl=>cases fl with
  |ret u=>exact I.after hq|next=>exact OR hq|brk=>exact OR hq|cont=>exact OR hq
theorem Dc (F:ce X.prog X.w X.K X.mg X.base CX k f fd ps sp)(hr:aS k X.A)(hg:Gl X x)(hm:X.mg x=some (.ref f))(hk:RU X.K (.ref f)=true)(hb:f_ X.K fd ps ds)(hd:ay Qy ds)(hx:im CX X E)
  (ha:PA X (e::es) t) (hdb:↥((x==("__debug__":Str))=false)) (he:⇑(RE (e::es) X.env=(false,RS e X.env)::RE es X.env)) (hpl:⇑((RZ pos (RE es X.env)).any (·.1)=false)):
  PE X (.Call (.Name x p) (e::es) [] pos) (nH sp Qy E t):=by intro P6 s σ H Q I h;refine PY (my I hg hm ?_ hdb);refine PySem.W.callWith_K (h₀:=X.base) I.ok.mod.kin hk (aL (ha pos P6 s σ H _ I h) λus s1 ⟨vs,H1,I1,r,q⟩=>⟨I1.kIn,?_⟩) he hpl;exact vV F hr hb hd hx I1 r q
theorem HL(he:PE X o ta)(c:fH X.K C)(hm:bq X.K C m f)(F:ce X.prog X.w X.K X.mg X.base CX k f fd ps sp)(hr:aS k X.A)(hb:f_ X.K fd ps ds)(hd:ay Qy ds)(hx:im CX X E)(ha:PA X (e::es) t)(hst:⇑(RE (e::es) X.env=(false,RS e X.env)::RE es X.env))(hpl:⇑((RZ pos (RE es X.env)).any (·.1)=false))(ht:⇑(RS (.Call (.Attribute o m apos) (e::es) [] pos) X.env=(do
   let ov<-RS o X.env
   standAt apos.atName
   let (f,first)<-holding [ov] (getMethod ov m pl)
   callWith pos f first (RZ pos (RE (e::es) X.env)) (backToKw pos (Sy [] X.env))))):
  PE X (.Call (.Attribute o m apos) (e::es) [] pos) (nG C m sp Qy E ta t):=by intro P6 s σ H Q I h;refine PySem.W.methodCall_KW (pl:=pl) (aL (he P6 s σ H _ I h) λu s1 ⟨x,H1,I1,rx,a,dx,fs,ex,ea,l,q⟩=>?_) ht;subst ex;obtain rfl:u=RI a:=rx;refine ui I1 ea c hm l ?_;refine PySem.W.callWith_K (first:=[.ref a]) (h₀:=X.base) I.ok.mod.kin hm.kp (aL (ha pos P6 s1 σ H1 _ I1 q) λus s2 ⟨vs,H2,I2,r,q2⟩=>⟨I2.kIn,?_⟩) hst hpl;exact vV (us:=.ref a::us) (vs:=.ref a::vs) F hr hb hd hx I2 (.cons rfl r) q2
theorem JJ(he:PE X o ta)(c:fH X.K C)(hm:bq X.K C m f)(F:ce X.prog X.w X.K X.mg X.base CX k f fd ps sp)(hr:aS k X.A)(hb:f_ X.K fd ps ds)(hd:ay Qy ds)(hx:im CX X E)(ht:⇑(RS (.Call (.Attribute o m apos) [] [] pos) X.env=(do
   let ov<-RS o X.env
   standAt apos.atName
   let (f,first)<-holding [ov] (getMethod ov m pl)
   callWith pos f first (RZ pos (RE [] X.env)) (backToKw pos (Sy [] X.env))))):
  PE X (.Call (.Attribute o m apos) [] [] pos) (nG C m sp Qy E ta gK):=by intro P6 s σ H Q I h;refine PySem.W.methodCall_KW (pl:=pl) (aL (he P6 s σ H _ I h) λu s1 ⟨x,H1,I1,rx,a,dx,fs,ex,ea,l,q⟩=>?_) ht;subst ex;obtain rfl:u=RI a:=rx;refine ui I1 ea c hm l ?_;exact PySem.W.callWith_K0 (first:=[.ref a]) I1.kIn hm.kp (vV (us:=[.ref a]) (vs:=[.ref a]) F hr hb hd hx I1 (.cons rfl .nil) q)
structure Mk (K:Fg)(C f:Q2):Prop where
 makes:PySem.W.makesIn K C=true
 init:RG K (.ref C) "__init__"=some (some (.ref f))
 fn:RH K (.ref f)=true
 kp:RU K (.ref C)=true
theorem Dv(M:Mk X.K C f)(F:ce X.prog X.w X.K X.mg X.base CX k f fd ps sp)(hr:aS (k+1) X.A)(hb:f_ X.K fd ps ds)(hd:ay Qy ds)(hx:im CX X E)(I:am X P6 σ H s)(r:ay vs us)(h:∀ x dx,H x=none->H dx=none->dx≠x->sp (.ref x::(vs++Qy)) (upd (upd H dx (.own x)) x (.ins C dx [])) (λv H2=>v=.non/\Q (.ref x) H2) E):
  RF (RK X.prog X.w) X.A (call (.ref C) us) (EP X P6 σ Q) X.xe s:=by
 have hq:=h (s.heap.objs.size+1) s.heap.objs.size (I.hok.fresh (Nat.le_succ _)) (I.hok.fresh (On _)) (OH (Px _));have I2:=am.made (C:=C) I;have r2:ay (V.ref (s.heap.objs.size+1)::(vs++Qy)) (RI (s.heap.objs.size+1)::(us++ds)):=.cons rfl (r.append hd);have hl:(RI (s.heap.objs.size+1)::us++ds).length=ps.length:=by have e:=r2.length;rw[F.len _ _ _ _ hq]at e;exact e.symm
 refine P5 (Dw (f:=f) I.kIn M.makes M.init (Pd.mp M.fn) (P3 (F.run _ X.stack _ _ ⟨RI (s.heap.objs.size+1)::us,[]⟩ (RI (s.heap.objs.size+1)::(us++ds)) _ _ E (hr.make C us [])
  (I2.env0.make C us []) (hb _ (RI (s.heap.objs.size+1)::us) I2.kIn hl) r2 hq) λr s' hq'=>?_))
 cases r with
 |error e=>exact hx P6 σ _ _ e s' I2 hq'|ok fl=>cases fl with
  |ret u=>obtain⟨v,H',I3,rv,ev,q3⟩:=I2.after hq';subst ev;exact⟨rv,⟨V.ref (s.heap.objs.size+1),H',I3,rfl,q3⟩⟩|next=>exact OR hq'|brk=>exact OR hq'|cont=>exact OR hq'
theorem HJ (M:Mk X.K C f)(F:ce X.prog X.w X.K X.mg X.base CX k f fd ps sp)(hr:aS (k+1) X.A)(hg:Gl X x)(hm:X.mg x=some (.ref C))(hb:f_ X.K fd ps ds)(hd:ay Qy ds)(hx:im CX X E)
  (ha:PA X (e::es) t) (hdb:↥((x==("__debug__":Str))=false)) (he:⇑(RE (e::es) X.env=(false,RS e X.env)::RE es X.env)) (hpl:⇑((RZ pos (RE es X.env)).any (·.1)=false)):
  PE X (.Call (.Name x p) (e::es) [] pos) (mf C sp Qy E t):=by intro P6 s σ H Q I h;refine PY (my I hg hm ?_ hdb);refine PySem.W.callWith_K (h₀:=X.base) I.ok.mod.kin M.kp (aL (ha pos P6 s σ H _ I h) λus s1 ⟨vs,H1,I1,r,q⟩=>⟨I1.kIn,?_⟩) he hpl;exact Dv M F hr hb hd hx I1 r q
theorem JI (M:Mk X.K C f)(F:ce X.prog X.w X.K X.mg X.base CX k f fd ps sp)(hr:aS (k+1) X.A)(hg:Gl X x)(hm:X.mg x=some (.ref C))(hb:f_ X.K fd ps ds)(hd:ay Qy ds)(hx:im CX X E)
  (hdb:↥((x==("__debug__":Str))=false)):PE X (.Call (.Name x p) [] [] pos) (mf C sp Qy E gK):=by intro P6 s σ H Q I h;refine PY (my I hg hm ?_ hdb);exact PySem.W.callWith_K0 I.kIn M.kp (Dv (us:=[]) M F hr hb hd hx I .nil h)
end
section
variable {k:Nat}{f:Q2}{ps ks:List Str}{E:XK}{m:Str}{kpos:Pos}{o:Expr}{kws:List Keyword}{t tk:TA}{nm:Option Str}
variable {g:List be->List be->List be}{gV:Ry->Ry->Ry}
end
structure aQ (N P:List Str)(sc:Scope):Prop where
 kind:sc.kind=.function
 co:sc.isCoroutine=false
 gen:sc.isGenerator=false
 nd:N.Nodup
 pre:N.take P.length=P
 par:∀ x∈P,sc.names.lookup x=some .local\/sc.names.lookup x=some .cell
 nofree:∀ y∈sc.names,y.2≠.free
variable {kindOf:Str->Option NameKind}
theorem El:∀{binds:List (Str×be)}{m:Str->Option be},(∀ v,(x,v)∉binds)->bindL kindOf binds m x=m x
 |[],_,_=>rfl|(n,v)::r,m,h=>by
  unfold bindL;rw[El λw hw=>h w (Oo _ hw)];split
  ·have:x≠n:=by rintro rfl;exact h v Oi
   simp[this]
  ·rfl
theorem Ek:∀{binds:List (Str×be)}{m:Str->Option be},(∀ v,(x,v)∉binds)->bindC kindOf binds m x=m x
 |[],_,_=>rfl|(n,v)::r,m,h=>by
  unfold bindC;rw[Ek λw hw=>h w (Oo _ hw)];split
  ·rfl
  ·have:x≠n:=by rintro rfl;exact h v Oi
   simp[this]
theorem Ej{v:be}:∀{P:List Str}{vs:List be}{i:Nat}{m:Str->Option be},P.Nodup->P[i]?=some x->vs[i]?=some v->kindOf x=some .local->
  bindL kindOf (P.zip vs) m x=some v|[],_,_,_,_,h,_,_=>by simp at h|_::_,[],_,_,_,_,h,_=>by simp at h|p::P,w::vs,0,m,nd,h1,h2,hk=>by simp at h1 h2;subst h1;subst h2;show bindL kindOf ((p,w)::P.zip vs) m p=_;unfold bindL;rw[El λv hv=>(OM.mp nd).1 (List.of_mem_zip hv).1,Ol hk];simp|p::P,w::vs,i+1,m,nd,h1,h2,hk=>by show bindL kindOf ((p,w)::P.zip vs) m x=_;unfold bindL;exact Ej (i:=i) (OM.mp nd).2 (by simpa using h1) (by simpa using h2) hk
theorem Ei{v:be}:∀{P:List Str}{vs:List be}{i:Nat}{m:Str->Option be},P.Nodup->P[i]?=some x->vs[i]?=some v->kindOf x≠some .local->
  bindC kindOf (P.zip vs) m x=some v|[],_,_,_,_,h,_,_=>by simp at h|_::_,[],_,_,_,_,h,_=>by simp at h|p::P,w::vs,0,m,nd,h1,h2,hk=>by simp at h1 h2;subst h1;subst h2;show bindC kindOf ((p,w)::P.zip vs) m p=_;unfold bindC;rw[Ek λv hv=>(OM.mp nd).1 (List.of_mem_zip hv).1,Oh hk];simp|p::P,w::vs,i+1,m,nd,h1,h2,hk=>by show bindC kindOf ((p,w)::P.zip vs) m x=_;unfold bindC;exact Ei (i:=i) (OM.mp nd).2 (by simpa using h1) (by simpa using h2) hk
def start (N:List Str)(vs:Ry):St:=vs.map some++RB (N.length - vs.length) none
def bT (CX:ke)(P:RP)(w:R3)(K:Fg)(mg:Str->Option be)(base:RW)(N:List Str)(qual:Str)(scope:Scope)(f:Q2)(cd:be)(A:Sn)(outer:List Env)(s:RC)(H:Hp)(E:XK):Cx where
 prog:=P;w:=w;K:=K;mg:=mg;base:=base;A:=A.deeper (envOfC qual scope s.heap.objs.size f cd);N:=N;s₀:=s;H₀:=H;env:=envOfC qual scope s.heap.objs.size f cd;outer:=outer;stack:=envOfC qual scope s.heap.objs.size f cd::outer;ex:=[];calm:=true;fn:=λ_=>true;pn:=[];xe:=λe s'=>RF (RK P w) (A.deeper (envOfC qual scope s.heap.objs.size f cd)) (leaving (envOfC qual scope s.heap.objs.size f cd) e) (λ_ s''=>CX outer H s E e s'') (λe' s''=>CX outer H s E e' s'') s'
theorem Dt{sc:Scope}(h:sc.names.lookup x=some .cell):∃ c,(cellsFrom n sc.names []).lookup x=some c:=by have q:=PySem.W.cellsFrom_some sc.names n [] (.inl h);exact Option.isSome_iff_exists.mp q
variable {qual:Str}{scope:Scope}
theorem Lc{ps:List Str}{f:Q2}{cd:be}{s1:RC}{E:XK}(S:aQ N ps scope)(hd:A.handled=none)(e0:gU P w K mg base A outer s H)(hl:vs.length=ps.length)(r:ay vs us)(x:InCallC s s.heap.objs.size (bindL (envOfC qual scope s.heap.objs.size f cd).kindOf (ps.zip us) λ_=>none) (cellsFrom (s.heap.objs.size+1) scope.names []) (bindC (envOfC qual scope s.heap.objs.size f cd).kindOf (ps.zip us) λ_=>none) s1):
  am (bT CX P w K mg base N qual scope f cd A outer s H E) [] (start N vs) H s1:=by
 have hpl:ps.length<=N.length:=by have:=congrArg List.length S.pre;rw[O0]at this;omega
 obtain⟨h1,tk,rfl,hk⟩:=x.done;have noA:∀ b:Q2,b∉(bT CX P w K mg base N qual scope f cd A outer s H E).ex:=λb z=>OE (show b∈([]:Rz)from z) (by simp);refine⟨⟨e0.mod,S.kind,rfl,rfl,On _,λy z c h1 h2=>?_,λy hy=>?_,λy c _ h=>?_,λ_=>hd,Around.frames_deeper e0.frames,.inr ⟨rfl,rfl⟩,λb z=>OE z (noA b),e0.bs,e0.bsz,λb _ _=>noA b,λb z=>OE z (noA b),e0.funs,e0.frf⟩,
  rfl,e0.bare,Un.kept hk,⟨_,x.toInCall.ns,λi y v h1 h2 h3=>?_⟩,λy c h=>⟨_,x.cell y c h⟩,e0.hok.fresh (On _),λy c h=>?_,λp hp=>OE (show p∈([]:RA)from hp) (by simp),e0.hok.kept hk,?_⟩
 ·exact name_of_addr x.apart (PN h1) (PN h2)
 ·have hy:scope.names.lookup y=some .cell\/scope.names.lookup y=some .free:=hy;rcases hy with hy|hy
  ·exact Dt hy
  ·exact OE rfl (S.nofree _ (PN hy))
 ·exact Pu (x.above y c (PN h))
 ·have hi:i<vs.length:=by
   unfold start at h2;by_cases hi:i<vs.length
   ·exact hi
   ·rw[List.getElem?_append_right (by simpa using hi)]at h2;rw[List.getElem?_replicate]at h2;split at h2<;>cases h2
  have ha:vs[i]?=some v:=by unfold start at h2;rw[Pp (by simpa using hi),aM]at h2;cases e:vs[i]? with
   |none=>rw[e]at h2;cases h2|some a=>rw[e]at h2;cases h2;rfl
  obtain⟨u,hu,rv⟩:=r.get ha;have hp:ps[i]?=some y:=by rw[<-S.pre,List.getElem?_take_of_lt (by omega)];exact h1
  have ndP:ps.Nodup:=by rw[<-S.pre];exact S.nd.sublist (List.take_sublist _ _)
  nomatch u,rv;rcases S.par y (cq hp)with k|k
  ·exact .inl ⟨k,Ej ndP hp hu k⟩
  ·obtain⟨c,e⟩:=Dt (n:=s.heap.objs.size+1) k;refine .inr ⟨.inl k,c,e,?_⟩;have q:=x.cell y c e;rw[Ei ndP hp hu (by show scope.names.lookup y≠_;rw[k];decide)]at q;exact q
 ·exact e0.hok.fresh (Pu (x.above y c (PN h)))
 ·unfold start;show _=N.length;rw[OA,aT,List.length_replicate];omega
theorem BJ{k:Nat}{f:Q2}{params:Arguments}{dV kV doc pm cdv ct oc:be}{an od:Option Q2}{osl:Array (Option be)}{ps:List Str}(lk:K.lookup f=some ⟨oc,od,.func (Sr name qual params body scope dV kV doc pm an cdv ct),osl⟩)(hcd:PySem.W.codeIn K cdv qual=true)(S:aQ N ps scope)(len:∀ vs H Q E,sp vs H Q E->vs.length=ps.length)(hbody:∀(A:Sn) (outer:List Env) (s:RC) (H:Hp) (vs:Ry) (Q:VK) (E:XK),aS k (A.deeper (envOfC qual scope s.heap.objs.size f cdv))->sp vs H Q E->
   ∃ t,fh (bT CX P w K mg base N qual scope f cdv A outer s H E) body t/\t {nx:=λ_ H'=>Q .non H',rt:=Q} (start N vs) H):
  ce P w K mg base CX (k+1) f (Sr name qual params body scope dV kV doc pm an cdv ct) ps sp:=by
 refine⟨len,λA outer s H args us vs Q E hr e0 hb r hsp=>?_⟩;have hl:=len _ _ _ _ hsp;have KX:K.In s.heap:=e0.mod.kin.keeps λb o e=>(e0.bs b o e).1;have lim:s.heap.NoLimit:=e0.mod.nolimit.keeps λb o e=>(e0.bs b o e).1;have hkind:∀ y∈ps.zip us,scope.names.lookup y.1=some .local\/(scope.names.lookup y.1=some .cell/\((cellsFrom (s.heap.objs.size+1) scope.names []).lookup y.1).isSome=true):=λ⟨n,v⟩ hy=>by
  rcases S.par n (List.of_mem_zip hy).1 with q|q
  ·exact .inl q
  ·exact .inr ⟨q,PySem.W.cellsFrom_some _ _ _ (.inl q)⟩
 refine codeAny_call_function hr.depth (KX _ _ lk) rfl S.co S.gen rfl (PySem.W.codeRec_of KX hcd) (hb _ _ _ _ ?_);refine wpAny_newFunctionEnv_cells S.kind hkind λenv he s1 x=>?_;subst he;refine⟨lim.keeps x.toInCall.keep,codeAny_func ?_⟩;obtain⟨t,ht,hq⟩:=hbody A outer s H vs Q E (hr.deeper _) hsp;have I:am (bT CX P w K mg base N qual scope f cdv A outer s H E) [] (start N vs) H s1:=Lc S hr.hd e0 hl r x;refine PL (ht [] s1 (start N vs) H _ I hq) (λfl s' hs=>?_) λe s' hs=>hs;have fin:∀{σ':St}{H':Hp}{v:V}{u:be},am (bT CX P w K mg base N qual scope f cdv A outer s H E) [] σ' H' s'->az v u->Q v H'->CE outer P w H s Q u s':=λ{σ' H' v u} J rv q=>⟨v,H',J.os,J.bare,J.base,J.hok,rv,q⟩
 cases fl with
 |ret u=>obtain⟨v,σ',H',J,rv,q⟩:=hs;exact fin J rv q|next=>obtain⟨σ',H',J,q⟩:=hs;exact fin (v:=V.non) (u:=Sb) J rfl q|brk=>obtain⟨_,_,_,q⟩:=hs;exact OR q|cont=>obtain⟨_,_,_,q⟩:=hs;exact OR q
section
variable {t:TA}{id T:String}{r:Ry->Hp->VK->Prop}
def zt (r:Ry->Hp->VK->Prop)(t:TA):TE:=λσ H Q=>t σ H λvs H1=>r vs H1 Q
theorem b9 (hc:dC X (.builtin id) r)(hg:Gl X x)(hm:X.mg x=none)(hv:RQ x=some (.builtin id))(ha:PA X (e::es) t)(hn:↥(x≠"__name__"))(hdb:↥((x==("__debug__":Str))=false))
  (he:⇑(RE (e::es) X.env=(false,RS e X.env)::RE es X.env)) (hpl:⇑((RZ pos (RE es X.env)).any (·.1)=false)):PE X (.Call (.Name x p) (e::es) [] pos) (zt r t):=by intro P6 s σ H Q I h;refine PY (nX I hg hm hv ?_ hn hdb);exact PyProof.Rows.callWith_builtin1 (aL (ha pos P6 s σ H _ I h) λus s1 ⟨vs,H1,I1,r1,q1⟩=>hc P6 s1 σ H1 vs us Q I1 r1 q1) he hpl
theorem mI (hc:dC X (.type T) r)(hg:Gl X x)(hm:X.mg x=none)(hv:RQ x=some (.type T))(ha:PA X (e::es) t)(hn:↥(x≠"__name__"))(hdb:↥((x==("__debug__":Str))=false))
  (he:⇑(RE (e::es) X.env=(false,RS e X.env)::RE es X.env)) (hpl:⇑((RZ pos (RE es X.env)).any (·.1)=false)):PE X (.Call (.Name x p) (e::es) [] pos) (zt r t):=by intro P6 s σ H Q I h;refine PY (nX I hg hm hv ?_ hn hdb);exact Se (aL (ha pos P6 s σ H _ I h) λus s1 ⟨vs,H1,I1,r1,q1⟩=>hc P6 s1 σ H1 vs us Q I1 r1 q1) he hpl
end
end L2
namespace HT
open PySem PyProof.Rows
section
open PySem.SeqAt
open PySem.AutoSeq1 (wpAny_loadPart')
open PySem.MeetsSeq PySem.MeetsSeq2 PySem.MeetsSeq3
end
variable {Q:be->RC->Prop}{vl vu:be}{lo hi:Option Int}
section
variable {prog:RP}{w:R3}{A:Sn}{E:be->RC->Prop}{s:RC}
theorem cat_tup{t b:Q2}{vs ws:List be}(ht:IsTup s.heap t vs.toArray)(hb:IsTup s.heap b ws.toArray)(hv:vs≠[])(h1:ws=[]->Q (.ref t) s)(h2:ws≠[]->Q (.ref s.heap.objs.size) {s with heap:=s.heap.push {cls:=.type "tuple",data:=.seq (vs++ws).toArray}})(hsz:vs.length+ws.length<=sizeLine):RF (RK prog w) A (Sh .Add (.ref t) (.ref b)) Q E s:=by
 obtain⟨⟨cls,dd,data,sl⟩,ho,hc,n,hd⟩:=id ht;obtain⟨⟨cls2,dd2,data2,sl2⟩,ho2,hc2,n2,hd2⟩:=id hb;simp only at hc hd hc2 hd2;subst hc hd hc2 hd2;have e:vs.toArray++ws.toArray=(vs++ws).toArray:=by simp
 by_cases hw:ws=[]
 ·exact concat_meets ⟨_,ho,rfl⟩ ⟨_,ho2,rfl⟩ noFill_tuple_add seq_tuple_add PySem.F.slot_tuple_add PySem.F.entry_tuple_add (PySem.F.args_tuple_add_2 _ _)
   (tuple_addW1 t b vs.toArray ws.toArray n n2 dd dd2 sl sl2 (by simpa using hv) (by simp[hw])) ⟨ho,ho2,h1 hw⟩
 ·refine concat_meets ⟨_,ho,rfl⟩ ⟨_,ho2,rfl⟩ noFill_tuple_add seq_tuple_add PySem.F.slot_tuple_add PySem.F.entry_tuple_add (PySem.F.args_tuple_add_2 _ _)
   (tuple_addW2 t b vs.toArray ws.toArray n n2 dd dd2 sl sl2 (by simpa using hv) (by simpa using hw) (by rw[bL,bL];exact hsz)) ⟨ho,ho2,?_⟩
  rw[e];exact h2 hw
def sIx (n d:Nat):Option Int->Nat|none=>d|some v=>if v<0 then(v+(n:Int)).toNat else min v.toNat n
theorem sIx_none (n d:Nat):sIx n d none=d:=rfl
theorem sIx_nat (n d k:Nat):sIx n d (some (k:Int))=min k n:=by show(if(k:Int)<0 then((k:Int)+(n:Int)).toNat else min (k:Int).toNat n)=min k n;rw[Oh (by omega),Pw]
theorem Hh (n d:Nat)(hd:d<=n)(o:Option Int):sIx n d o<=n:=by cases o with
 |none=>exact hd|some v=>
  show(if v<0 then(v+(n:Int)).toNat else min v.toNat n)<=n;by_cases hv:v<0
  ·rw[Ol hv];omega
  ·rw[Oh hv];exact Nat.min_le_right _ _
theorem C_ (v:Int)(n d:Nat):(if v<0 then max (v+(n:Int)) 0 else min v (n:Int))=((sIx n d (some v):Nat):Int):=by
 show(if v<0 then max (v+(n:Int)) 0 else min v (n:Int))=(((if v<0 then(v+(n:Int)).toNat else min v.toNat n):Nat):Int);by_cases hv:v<0
 ·simp only[Ol hv];omega
 ·simp only[Oh hv];omega
theorem Ly (lo hi:Option Int)(n:Nat):Builtin.Slice.sliceAdjust lo hi 1 (n:Int)=(((sIx n 0 lo:Nat):Int),((sIx n n hi:Nat):Int)):=by
 have h1:¬ ((1:Int)<0):=by omega
 unfold Builtin.Slice.sliceAdjust;simp only[h1,if_false];refine Prod.ext ?_ ?_
 ·cases lo with|none=>rfl|some v=>exact C_ v n 0
 ·cases hi with|none=>rfl|some v=>exact C_ v n n
theorem Lx (i j:Nat):Sj (i:Int) (j:Int) 1=j - i:=by
 unfold Sj;have h1:(1:Int)>0:=by omega
 simp only[h1,if_true,Int.ediv_one];split<;>omega
theorem Ey {v:be}{o:Option Int}{Q:Option Int->RC->Prop}(p:IsPart v o)(h:Q o s):RF (RK prog w) A (Builtin.Slice.slicePartIndex v) Q E s:=by cases p with
 |none=>exact slicePart_none h|int i t=>exact slicePart_int h
theorem Nu{sl:Q2}{n:Nat}{Q:Int×Int×Nat->RC->Prop}(hs:s.heap.IsSliceOf sl vl vu .none)(pl:IsPart vl lo)(pu:IsPart vu hi)(h:Q (((sIx n 0 lo:Nat):Int),1,sIx n n hi - sIx n 0 lo) s):RF (RK prog w) A (Builtin.Slice.sliceApplied (.ref sl) (So (n:Int))) Q E s:=by obtain⟨os,hos,hcs,hds⟩:=id hs;unfold Builtin.Slice.sliceApplied Builtin.Slice.sliceFields;refine Pz (Pz (P2 hos hds (x:=vl) rfl (Pz (P2 hos hds (x:=vu) rfl (Pz (P2 hos hds (x:=.none) rfl (PF ?_)))))));refine Pz (slicePart_none ?_);show RF _ _ (if((1:Int)==0)=true then _ else _) _ _ s;rw[Oh (by decide)];refine Pz (Ey pl (Pz (Ey pu (Pz (PF ?_)))));show RF _ _ (match Builtin.Slice.sliceAdjust lo hi 1 (n:Int)with|(lo,hi)=>So (lo,(1:Int),Sj lo hi 1)) _ _ s;rw[Ly lo hi n];show RF _ _ (So (((sIx n 0 lo:Nat):Int),(1:Int),Sj ((sIx n 0 lo:Nat):Int) ((sIx n n hi:Nat):Int) 1)) _ _ s;rw[Lx];exact PF h
theorem JH (xs:Array be)(i k:Nat):((RD k).filterMap λ(m:Nat)=>xs[((i:Int)+(m:Int)*1).toNat]?).toArray=((xs.toList.drop i).take k).toArray:=by
 have e:(λ(m:Nat)=>xs[((i:Int)+(m:Int)*1).toNat]?)=λm=>xs[i+m]?:=by
  funext m;have:((i:Int)+(m:Int)*1).toNat=i+m:=by omega
  rw[this]
 rw[e];have:=pick_run xs i k;rw[List.filterMap_map]at this;have e2:((λx=>xs[x]?) ∘ λx=>i+x)=λm=>xs[i+m]?:=rfl;rw[e2]at this;rw[this]
theorem getItem_tuple_cut{t sl:Q2}{items:Array be}(ht:IsTup s.heap t items)(hs:s.heap.IsSliceOf sl vl vu .none)(pl:IsPart vl lo)(pu:IsPart vu hi)(hw:¬ (sIx items.size 0 lo=0/\sIx items.size items.size hi=items.size))(h:Q (.ref s.heap.objs.size) {s with heap:=s.heap.push {cls:=.type "tuple",data:=.seq ((items.toList.drop (sIx items.size 0 lo)).take (sIx items.size items.size hi - sIx items.size 0 lo)).toArray}})(hsz:items.size<=sizeLine):RF (RK prog w) A (getItem (.ref t) (.ref sl)) Q E s:=by
 have htake:sizeOk (.seq ((items.toList.drop (sIx items.size 0 lo)).take (sIx items.size items.size hi - sIx items.size 0 lo)).toArray):=by show((items.toList.drop (sIx items.size 0 lo)).take (sIx items.size items.size hi - sIx items.size 0 lo)).toArray.size<=sizeLine;rw[bL,O0,Pr,Sv];omega
 have hj:sIx items.size items.size hi<=items.size:=Hh _ _ (On _) hi;obtain⟨os,hos,hcs,hds⟩:=id hs;have hTs:s.TypeIs (.ref sl) "slice":=⟨os,hos,hcs⟩;unfold getItem;try with_reducible refine PV ?_
 first|refine Pz (PF ?_)|skip
 refine Pz (wpAny_sequenceKey ht.typeIs (by decide) ?_);refine Pz (wpAny_callSpecial?_slot (name:=Su "__getitem__") ht.typeIs PyProof.Rows.slot_tuple_getitem
  (wpAny_call_entry PyProof.Rows.slot_tuple_getitem ht.typeIs entry_tuple_getitem ?_ (args_tuple_getitem _ _)))
 show RF _ _ (Builtin.Tuple.tupleItemsOf (.ref t)>>=_) _ _ s;refine Pz (tupleItemsOf_ ht ?_);refine Pz (wpAny_typeOf hTs ?_);rw[Ol (by decide)];refine Pz (Nu hs pl pu ?_);have hno:¬ ((((sIx items.size 0 lo:Nat):Int)==0&&(1:Int)==1&&(sIx items.size items.size hi - sIx items.size 0 lo)==items.size)=true):=by intro q;rw[Of,Of]at q;have q1:((sIx items.size 0 lo:Nat):Int)=0:=eq_of_beq q.1.1;have q2:sIx items.size items.size hi - sIx items.size 0 lo=items.size:=eq_of_beq q.2;exact hw ⟨by omega,by omega⟩
 show RF _ _ (if(((sIx items.size 0 lo:Nat):Int)==0&&(1:Int)==1&&(sIx items.size items.size hi - sIx items.size 0 lo)==items.size)=true then _ else _) _ _ s;rw[Oh hno,JH];first|exact Pz (m:=Builtin.Tuple.tupleExact _) (PX (PF ⟨_,rfl,PF h⟩) htake)|exact Pz (m:=Builtin.Tuple.tupleExact _) (PX (Pz (PF (PF ⟨_,rfl,PF h⟩))) htake)|exact Pz (Pz (m:=Builtin.Tuple.tupleExact _) (PX (PF (PF ⟨_,rfl,PF h⟩)) htake))|exact Pz (Pz (m:=Builtin.Tuple.tupleExact _) (PX (PF ⟨_,rfl,PF h⟩) htake))
end
end HT
namespace L2
open PySem PySem.Spec PyProof.Rows
abbrev TO:=St->Hp->(Option Int->Hp->Prop)->Prop
def PO (X:Cx)(e:Option Expr)(t:TO):Prop:=∀(P6:RA) (s:RC) (σ:St) (H:Hp) (Q:Option Int->Hp->Prop),am X P6 σ H s->t σ H Q->
  RF (RK X.prog X.w) X.A (evalPart e X.env) (λu s'=>∃ o H',am X P6 σ H' s'/\IsPart u o/\Q o H') X.xe s
def C9:TO:=λ_ H Q=>Q none H
def BI (t:TE):TO:=λσ H Q=>t σ H λx H1=>∃ i,x=.int i/\Q (some i) H1
theorem Lw {ns:Rv}:∀{us:List be},ay (ns.map V.int) us->IntsAre us ns:=by induction ns with
 |nil=>intro us r;rw[O6]at r;cases r;exact .nil|cons n ns ih=>intro us r;rw[bX]at r;cases r with|cons r1 r2=>obtain⟨t,e⟩:=r1;subst e;exact .cons n t (ih r2)
variable {xs:Ry}{us:List be}{pos:Pos}{X:Cx}{e:Expr}
section
variable {te:TE}{lo hi:Option Expr}{tl th:TO}{p2:Pos}
theorem iX:PO X none C9:=by intro P6 s σ H Q I h;rw[evalPart_none];exact PF ⟨none,H,I,.none,h⟩
theorem iW (h:PE X e te):PO X (some e) (BI te):=by intro P6 s σ H Q I hw;rw[evalPart_some];refine aL (h P6 s σ H _ I hw) λu s1 ⟨x,H1,I1,r1,q1⟩=>?_;obtain⟨i,rfl,q⟩:=q1;obtain⟨t,rfl⟩:=r1;exact⟨some i,H1,I1,.int i t,q⟩
def lV (X:Cx)(r:V->Option Int->Option Int->Hp->VK->Prop):Prop:=∀(P6:RA) (s:RC) (σ:St) (H:Hp) (x:V) (v vl vu:be) (lo hi:Option Int) (sl:Q2) (Q:VK),am X P6 σ H s->az x v->s.heap.IsSliceOf sl vl vu .none->IsPart vl lo->IsPart vu hi->r x lo hi H Q->
  ∃ T id,typeLookup (.type T) "__getitem__"=So (some (.builtin id))/\s.TypeIs v T/\RF (RK X.prog X.w) X.A (getItem v (.ref sl)) (EP X P6 σ Q) X.xe s
variable {r:V->Option Int->Option Int->Hp->VK->Prop}
theorem lV.or{r':V->Option Int->Option Int->Hp->VK->Prop}(h:lV X r)(h':lV X r'):lV X (λx lo hi H Q=>r x lo hi H Q\/r' x lo hi H Q):=by
 intro P6 s σ H x v vl vu lo hi sl Q I rx hs pl pu q;rcases q with q|q
 ·exact h P6 s σ H x v vl vu lo hi sl Q I rx hs pl pu q
 ·exact h' P6 s σ H x v vl vu lo hi sl Q I rx hs pl pu q
def Fy (r:V->Option Int->Option Int->Hp->VK->Prop)(te:TE)(tl th:TO):TE:=λσ H Q=>te σ H λx H1=>tl σ H1 λl H2=>th σ H2 λu H3=>r x l u H3 Q
theorem i4(hr:lV X r)(he:PE X e te)(hl:PO X lo tl)(hu:PO X hi th):PE X (.Subscript e (.Slice lo hi none p2) pos) (Fy r te tl th):=by intro P6 s σ H Q I h;refine Subscript_ (aL (he P6 s σ H _ I h) λv s1 ⟨x,H1,I1,r1,q1⟩=>?_);refine wpAny_Slice (aL (hl P6 s1 σ H1 _ I1 q1) λvl s2 ⟨l,H2,I2,pl,q2⟩=>aL (hu P6 s2 σ H2 _ I2 q2) λvu s3 ⟨u,H3,I3,pu,q3⟩=>?_);rw[evalPart_none];refine PF ?_;have I4:am X P6 σ H3 {s3 with heap:=s3.heap.push {cls:=.type "slice",data:=.fields #[vl,vu,.none]}}:=I3.kept (t':=s3.toks) λb ob q=>PB _ q;obtain⟨T,id,hT,ht,hg⟩:=hr P6 {s3 with heap:=s3.heap.push {cls:=.type "slice",data:=.fields #[vl,vu,.none]}} σ H3 x v vl vu l u s3.heap.objs.size Q I4 r1 (Heap.IsSliceOf.new ..) pl pu q3;show RF (RK X.prog X.w) X.A (subscriptTail e (.Slice lo hi none p2) v (.ref s3.heap.objs.size)) (EP X P6 σ Q) X.xe {s3 with heap:=s3.heap.push {cls:=.type "slice",data:=.fields #[vl,vu,.none]}};exact tail_any (ops:=[.ref s3.heap.objs.size,v]) ht hT hg (by with_unfolding_all rfl)
def bM (xs:Ry)(lo hi:Option Int):Ry:=(xs.drop (HT.sIx xs.length 0 lo)).take (HT.sIx xs.length xs.length hi - HT.sIx xs.length 0 lo)
theorem EW (xs:Ry)(lo hi:Option Int):(bM xs lo hi).length<=xs.length:=by unfold bM;rw[O0,Pr];omega
def qu (K:Fg):V->Option Int->Option Int->Hp->VK->Prop:=λx lo hi H Q=>∃ a xs,x=.ref a/\aB K H a xs/\
 ¬ (HT.sIx xs.length 0 lo=0/\HT.sIx xs.length xs.length hi=xs.length)/\∀ p,H p=none->Q (.ref p) (upd H p (.tup (bM xs lo hi)))
theorem Hg:lV X (qu X.K):=by
 intro P6 s σ H x v vl vu lo hi sl Q I rx hs pl pu h;obtain⟨a,xs,rfl,hx,hw,q⟩:=h;cases rx;obtain⟨its,r,ht,hz⟩:=I.tuple hx;have hlen:its.toArray.size=xs.length:=by rw[bL];exact r.length.symm
 nomatch "tuple",_,PyProof.Rows.slot_tuple_getitem.lookup,ht.typeIs;refine HT.getItem_tuple_cut ht hs pl pu (by rw[hlen];exact hw) ?_ (by rw[hlen];exact hz);rw[hlen];refine⟨.ref s.heap.objs.size,_,I.laid (t':=s.toks) (o:=.tup (bM xs lo hi)) (λb ob q=>PB _ q) (On _) ?_,rfl,q _ (I.hok.fresh (On _))⟩;exact⟨OI (EW xs lo hi) hz,_,(r.drop (HT.sIx xs.length 0 lo)).take (HT.sIx xs.length xs.length hi - HT.sIx xs.length 0 lo),IsTup.new _ _⟩
def BH (K:Fg):R2:=λx y H Q=>∃ a b xs ys,x=.ref a/\y=.ref b/\aB K H a xs/\aB K H b ys/\xs≠[]/\xs.length+ys.length<=sizeLine/\
 (ys=[]->Q (.ref a) H)/\(ys≠[]->∀ p,H p=none->Q (.ref p) (upd H p (.tup (xs++ys))))
theorem ay.nil_iff(r:ay xs us):us=[]↔xs=[]:=by cases r with
 |nil=>simp|cons _ _=>simp
theorem HI:cf X (Sh .Add) (BH X.K):=by intro P6 s σ H x y v u Q I rx ry h;obtain⟨a,b,xs,ys,rfl,rfl,ha,hb,hx,hz,q1,q2⟩:=h;cases rx;cases ry;obtain⟨its,r1,p1,_⟩:=I.tuple ha;obtain⟨its2,r2,p2,_⟩:=I.tuple hb;refine HT.cat_tup p1 p2 (λz=>hx (r1.nil_iff.mp z)) (λz=>⟨.ref a,H,I,rfl,q1 (r2.nil_iff.mp z)⟩) (λz=>?_) (by rw[<-r1.length,<-r2.length];exact hz);refine⟨.ref s.heap.objs.size,_,I.laid (t':=s.toks) (o:=.tup (xs++ys)) (λb ob q=>PB _ q) (On _) ?_,rfl,q2 (λw=>z (r2.nil_iff.mpr w)) _ (I.hok.fresh (On _))⟩;exact⟨by rw[OA];exact hz,_,r1.append r2,IsTup.new _ _⟩
end
noncomputable def gO (n:Nat) (i:Int):Option Nat:=if 0<=i then(if i<n then some i.toNat else none)else if -(n:Int)<=i then some (i+n).toNat else none
def fg {α:Type}(xs:List α)(i:Int):Option α:=(gO xs.length i).bind λj=>xs[j]?
variable {n j:Nat}{i:Int}
theorem C8(h:gO n i=some j):seqIndex? i n=some j/\j<n/\-(n:Int)<=i/\i<n:=by
 unfold gO at h;by_cases h0:0<=i
 ·rw[Ol h0]at h;by_cases h1:i<n
  ·rw[Ol h1]at h;have e:i.toNat=j:=OL h;exact⟨by rw[seqIndex_of h0 h1,e],by omega,by omega,h1⟩
  ·rw[Oh h1]at h;cases h
 ·rw[Oh h0]at h;by_cases h1:-(n:Int)<=i
  ·rw[Ol h1]at h;have e:(i+n).toNat=j:=OL h;exact⟨by rw[seqIndex_neg (by omega) h1,e],by omega,h1,by omega⟩
  ·rw[Oh h1]at h;cases h
variable {α:Type}
theorem wG{xs:List α}{v:α}(h:fg xs i=some v):∃ j,seqIndex? i xs.length=some j/\xs[j]?=some v/\j<xs.length/\-(xs.length:Int)<=i/\i<xs.length:=by unfold fg at h;cases e:gO xs.length i with
 |none=>rw[e]at h;cases h|some j=>rw[e]at h;obtain⟨h1,h2,h3,h4⟩:=C8 e;exact⟨j,h1,h,h2,h3,h4⟩
theorem bi{xs:List α}{v:α}(h:xs[j]?=some v):fg xs (j:Int)=some v:=by
 have hj:j<xs.length:=(d7.mp h).1;have e:gO xs.length (j:Int)=some j:=by unfold gO;rw[Ol (by omega),Ol (by omega)];simp
 unfold fg;rw[e];exact h
def wF (b:Expr):Prop:=∀ o i,subscripted b false o i=operate [o,i] (getItem o i)
def jy (X:Cx)(r:R2):Prop:=∀(value slice:Expr) (P6:RA) (s:RC) (σ:St) (H:Hp) (x y:V) (v u:be) (Q:VK),am X P6 σ H s->az x v->az y u->r x y H Q->
  subscripted slice false v u=operate [v,u] (getItem v u)->RF (RK X.prog X.w) X.A (subscriptTail value slice v u) (EP X P6 σ Q) X.xe s
def Bm (X:Cx)(id:String)(r:V->Ry->Hp->VK->Prop):Prop:=∀(P6:RA) (s:RC) (σ:St) (H:Hp) (x:V) (xs:Ry) (v:be) (us:List be) (Q:VK),am X P6 σ H s->az x v->ay xs us->r x xs H Q->
  RF (RK X.prog X.w) X.A (call (.builtin id) (v::us)) (EP X P6 σ Q) X.xe s
variable {P6:RA}{σ:St}{H:Hp}{s:RC}{p:Q2}{ys:Ry}{its its':List be}{A:Sn}{y x:V}{u v:be}{T id:String}{apos cpos:Pos}
section
variable {a b:Expr}{ta tb:TE}
theorem jy.or {r r':R2}(h:jy X r)(h':jy X r'):jy X (λx y H Q=>r x y H Q\/r' x y H Q):=by
 intro value slice P6 s σ H x y v u Q I rx ry q hs;rcases q with q|q
 ·exact h value slice P6 s σ H x y v u Q I rx ry q hs
 ·exact h' value slice P6 s σ H x y v u Q I rx ry q hs
theorem BG {r:R2}(hr:jy X r)(ha:PE X a ta)(hb:PE X b tb)(hs:wF b):PE X (.Subscript a b pos) (iu r ta tb):=by intro P6 s σ H Q I h;exact Subscript_ (mY ha hb I h λv u s2 x y H2 I2 rx ry q=>hr a b P6 s2 σ H2 x y v u Q I2 rx ry q (hs _ _))
def qD (K:Fg):R2:=λx y H Q=>∃ p xs i v,x=.ref p/\y=.int i/\ao K H p xs/\fg xs i=some v/\Q v H
def qB (K:Fg):R2:=λx y H Q=>∃ p xs i v,x=.ref p/\y=.int i/\aB K H p xs/\fg xs i=some v/\Q v H
def qC:R2:=λx y H Q=>∃ z i c,x=.str z/\y=.int i/\z.length<=sizeLine/\fg z.cps.toList i=some c/\Q (.str ⟨#[c]⟩) H
theorem HH:jy X (qD X.K):=by
 intro value slice P6 s σ H x y v u Q I rx ry h hs;obtain⟨p,xs,i,z,rfl,rfl,hq,he,q⟩:=h;cases rx;obtain⟨t,rfl⟩:=ry;obtain⟨its,r,pl,hz⟩:=I.list hq;obtain⟨j,h1,h2,h3,h4,h5⟩:=wG he;obtain⟨w,ew,rw'⟩:=r.get h2;have hl:=r.length;have hn:=nS;have fin:EP X P6 σ Q w s:=⟨z,H,I,rw',q⟩;by_cases h0:0<=i
 ·have hj:i.toNat=j:=by rw[seqIndex_of h0 h5]at h1;exact OL h1
  exact item_listR pl.isList h0 (by omega) (by rw[hj];simpa using ew) fin hs
 ·have hj:(i+(its.toArray.size:Int)).toNat=j:=by rw[seqIndex_neg (by omega) h4]at h1;rw[bL,<-hl];exact OL h1
  exact subscriptTail_builtinR (x:=w) pl.isList.typeIs slot_list_getitem.lookup
   (wpAny_getItem_list_neg (Q:=λr s'=>r=w/\EP X P6 σ Q r s') pl.isList (by omega) (by rw[bL]<;>omega) (by omega) (by rw[hj];simpa using ew) ⟨rfl,fin⟩) hs
theorem Hf:jy X (qB X.K):=by
 intro value slice P6 s σ H x y v u Q I rx ry h hs;obtain⟨p,xs,i,z,rfl,rfl,hq,he,q⟩:=h;cases rx;obtain⟨t,rfl⟩:=ry;obtain⟨its,r,pl,hz⟩:=I.tuple hq;obtain⟨j,h1,h2,h3,h4,h5⟩:=wG he;obtain⟨w,ew,rw'⟩:=r.get h2;have hl:=r.length;have hn:=nS;have fin:EP X P6 σ Q w s:=⟨z,H,I,rw',q⟩;exact subscriptTail_builtinR (x:=w) pl.typeIs slot_tuple_getitem.lookup
  (getItem_tuple (j:=j) (Q:=λr s'=>r=w/\EP X P6 σ Q r s') pl (by omega) (by omega) (by rw[bL,<-hl];exact h1) (by simpa using ew) ⟨rfl,fin⟩) hs
theorem He:jy X qC:=by
 intro value slice P6 s σ H x y v u Q I rx ry h hs;obtain⟨z,i,c,rfl,rfl,hz,he,q⟩:=h;obtain⟨t,rfl⟩:=rx;obtain⟨t',rfl⟩:=ry;obtain⟨j,h1,h2,h3,h4,h5⟩:=wG he;have hl:z.cps.toList.length=z.length:=by simp[Str.length]
 rw[hl]at h1 h4 h5;have hn:=nS;exact tail_any (typeIs_str s z t) slot_str_getitem.lookup (getItem_str (c:=c) (by have e1:decide (i< -(2 ^ 63:Int))=false:=Oq (by omega);have e2:decide (i≥2 ^ 63)=false:=Oq (by omega);rw[e1,e2,Bool.or_false]) (by rw[h1];simpa using h2) ⟨.str ⟨#[c]⟩,H,I.tok _,⟨_,rfl⟩,q⟩) hs
def mO (K:Fg):R2:=λx y H Q=>qD K x y H Q\/qB K x y H Q\/qC x y H Q
theorem HC:jy X (mO X.K):=HH.or (Hf.or He)
theorem Lv (its:List be)(n j:Nat)(u:be):Obj.mapSeq (·.setIfInBounds j u) {cls:=.type "list",data:=.seq its.toArray n}={cls:=.type "list",data:=.seq (its.set j u).toArray n}:=by simp[Obj.mapSeq]
theorem am.lst(I:am X P6 σ H s)(h:H p=some (.lst xs)):
  ∃(its:List be) (n:Nat),ay xs its/\s.heap.get? p=some {cls:=.type "list",data:=.seq its.toArray n}/\xs.length<=sizeLine:=by obtain⟨z,its,n,r,e⟩:=I.hok p _ h;exact⟨its,n,r,e,z⟩
theorem am.lstUpd{n':Nat}{f:Obj->Obj}(I:am X P6 σ H s)(h:H p=some (.lst xs))(ho:s.heap.get? p=some {cls:=.type "list",data:=.seq its.toArray n})(hf:f {cls:=.type "list",data:=.seq its.toArray n}={cls:=.type "list",data:=.seq its'.toArray n'})(r:ay ys its')(hz:ys.length<=sizeLine)(t:Nat):
  am X P6 σ (upd H p (.lst ys)) {s with heap:=s.heap.update p f,toks:=t}:=by
 have e:(s.heap.update p f).get? p=some {cls:=.type "list",data:=.seq its'.toArray n'}:=by rw[Heap.get?_update_self f ho (by rw[hf]<;>rfl),hf]
 refine I.write (x:=p) (e:=p) (by rw[h];trivial) (.inl rfl) (λb u hb q=>(PU _ _ (R7 hb)).trans q) ⟨_,e⟩ ?_;exact⟨hz,its',n',r,e⟩
def BS:V->V->V->Hp->(Hp->Prop)->Prop:=λo i v H Q=>∃ p xs k j,o=.ref p/\i=.int k/\H p=some (.lst xs)/\gO xs.length k=some j/\Q (upd H p (.lst (xs.set j v)))
theorem pU:sx X BS:=by
 intro P6 s σ H o i v ov iv u Q I ro ri rv h;obtain⟨p,xs,k,j,rfl,rfl,hp,hj,q⟩:=h;cases ro;obtain⟨t,rfl⟩:=ri;obtain⟨its,n,r,ho,hz⟩:=I.lst hp;obtain⟨h1,h2,h3,h4⟩:=C8 hj;have hl:=r.length;have hn:=nS;have I':am X P6 σ (upd H p (.lst (xs.set j v))) {s with heap:=s.heap.update p (Obj.mapSeq (·.setIfInBounds j u))}:=I.lstUpd hp ho (Lv its n j u) (r.set rv j) (by rw[ON];exact hz) s.toks
 by_cases h0:0<=k
 ·have hk:k.toNat=j:=by rw[seqIndex_of h0 h4]at h1;exact OL h1
  exact PySem.W.ki_setAt ho h0 (by omega) (by rw[bL,<-hl];exact h4) (by rw[hk];exact⟨_,I',q⟩)
 ·have hk:(k+(its.toArray.size:Int)).toNat=j:=by rw[seqIndex_neg (by omega) h3]at h1;rw[bL,<-hl];exact OL h1
  exact PySem.W.ki_setBack ho (by omega) (by rw[bL,<-hl];exact h3) (by omega) (by rw[hk];exact⟨_,I',q⟩)
theorem MI (lo hi:Option Int)(n:Nat):(sliceBounds lo hi none n).1=((HT.sIx n 0 lo:Nat):Int)/\(sliceBounds lo hi none n).2.1=((HT.sIx n n hi:Nat):Int)/\(sliceBounds lo hi none n).2.2=1:=by
 refine⟨?_,?_,rfl⟩
 ·cases lo with|none=>simp[sliceBounds,HT.sIx]|some i=>
   simp only[sliceBounds,HT.sIx,Option.getD_none,show(1:Int)>0 by decide,if_true];by_cases h:i<0
   ·simp only[h,if_true]<;>omega
   ·simp only[h,if_false]<;>omega
 ·cases hi with|none=>simp[sliceBounds,HT.sIx]|some i=>
   simp only[sliceBounds,HT.sIx,Option.getD_none,show(1:Int)>0 by decide,if_true];by_cases h:i<0
   ·simp only[h,if_true]<;>omega
   ·simp only[h,if_false]<;>omega
theorem MO (its:List be)(lo hi:Option Int):slicePick its.toArray lo hi none=((its.drop (HT.sIx its.length 0 lo)).take (HT.sIx its.length its.length hi - HT.sIx its.length 0 lo)).toArray:=by obtain⟨h1,h2,h3⟩:=MI lo hi its.toArray.size;unfold slicePick;rw[h1,h2,h3];simp only[sliceRange_one,pick_run,bL]<;>rfl
def qv (K:Fg):V->Option Int->Option Int->Hp->VK->Prop:=λx lo hi H Q=>∃ a xs,x=.ref a/\ao K H a xs/\∀ p,H p=none->Q (.ref p) (upd H p (.lst (bM xs lo hi)))
theorem HG:lV X (qv X.K):=by intro P6 s σ H x v vl vu lo hi sl Q I rx hs pl pu h;obtain⟨a,xs,rfl,hx,q⟩:=h;cases rx;obtain⟨its,r,ht,hz⟩:=I.list hx;have hlen:=r.length;nomatch "list",_,slot_list_getitem.lookup,ht.isList.typeIs;refine wpAny_getItem_list_slice ht.isList hs pl pu .none (by simp) ?_ (by rw[bL]<;>omega);rw[MO,<-hlen];refine⟨.ref s.heap.objs.size,_,I.laid (t':=s.toks) (o:=.lst (bM xs lo hi)) (λb ob q=>PB _ q) (On _) ?_,rfl,q _ (I.hok.fresh (On _))⟩;exact⟨OI (EW xs lo hi) hz,_,0,(r.drop (HT.sIx xs.length 0 lo)).take (HT.sIx xs.length xs.length hi - HT.sIx xs.length 0 lo),PJ _ rfl⟩
def fL:V->Bool|.non=>true|.bl _=>true|.int _=>true|.str _=>true|_=>false
noncomputable def ie:V->V->Bool|.non,.non=>true|.bl a,.bl b=>a==b|.bl a,.int b=>(if a then 1 else 0)==b|.int a,.bl b=>a==(if b then 1 else 0)|.int a,.int b=>a==b|.str a,.str b=>a==b|_,_=>false
theorem B_(ry:az y u)(rx:az x v)(fy:fL y=true)(fx:fL x=true):SeqAt.EqAt A s u v (ie y x):=by cases y with
 |non=>cases ry;cases x with
  |non=>cases rx;exact SeqAt.EqAt.same _|bl b=>cases rx;exact SeqAt.EqAt.none_bool b|int b=>obtain⟨t,rfl⟩:=rx;exact SeqAt.EqAt.none_int b t|str b=>obtain⟨t,rfl⟩:=rx;exact SeqAt.EqAt.none_str b t|_=>exact OE (show false=true from fx) Ox
 |bl a=>cases ry;cases x with
  |non=>cases rx;exact SeqAt.EqAt.bool_none a|bl b=>cases rx;exact SeqAt.EqAt.bool_bool a b|int b=>obtain⟨t,rfl⟩:=rx;exact SeqAt.EqAt.bool_int a b t|str b=>obtain⟨t,rfl⟩:=rx;exact SeqAt.EqAt.bool_str a b t|_=>exact OE (show false=true from fx) Ox
 |int a=>obtain⟨t',rfl⟩:=ry;cases x with
  |non=>cases rx;exact SeqAt.EqAt.int_none a t'|bl b=>cases rx;exact SeqAt.EqAt.int_bool a t' b|int b=>obtain⟨t,rfl⟩:=rx;exact SeqAt.EqAt.int_int a t' b t|str b=>obtain⟨t,rfl⟩:=rx;exact SeqAt.EqAt.int_str a t' b t|_=>exact OE (show false=true from fx) Ox
 |str a=>obtain⟨t',rfl⟩:=ry;cases x with
  |non=>cases rx;exact SeqAt.EqAt.str_none a t'|bl b=>cases rx;exact SeqAt.EqAt.str_bool a t' b|int b=>obtain⟨t,rfl⟩:=rx;exact SeqAt.EqAt.str_int a t' b t|str b=>obtain⟨t,rfl⟩:=rx;exact SeqAt.EqAt.str_str a t' b t|_=>exact OE (show false=true from fx) Ox
 |_=>exact OE (show false=true from fy) Ox
noncomputable def kT (x:V) (u:be):Bool:=match u with|.none=>ie .non x|.bool b=>ie (.bl b) x|.int i _=>ie (.int i) x|.str z _=>ie (.str z) x|_=>false
theorem B9(r:az y u)(f:fL y=true):kT x u=ie y x:=by cases y with
 |non=>cases r;rfl|bl b=>cases r;rfl|int i=>obtain⟨t,rfl⟩:=r;rfl|str z=>obtain⟨t,rfl⟩:=r;rfl|_=>exact OE (show false=true from f) Ox
theorem v_:∀{xs:Ry}{us:List be},ay xs us->xs.all fL=true->us.any (kT x)=xs.any λy=>ie y x|_,_,.nil,_=>rfl|y::xs,u::us,.cons r t,f=>by rw[O_,Of]at f;rw[Ph,Ph,B9 r f.1,v_ t f.2]
theorem wW(rx:az x v)(fx:fL x=true):∀{xs:Ry}{us:List be},ay xs us->xs.all fL=true->∀ u∈us,SeqAt.EqAt A s u v (kT x u)
 |_,_,.nil,_=>λu hu=>by cases hu|y::xs,u::us,.cons r t,f=>λu' hu=>by
  rw[O_,Of]at f;rcases Oe.mp hu with rfl|hu
  ·rw[B9 r f.1];exact B_ r rx f.1 fx
  ·exact wW rx fx t f.2 u' hu
def j7 (x:V)(xs:Ry):Bool:=xs.any λy=>ie y x
def uH (K:Fg)(neg:Bool):R2:=λx y H Q=>∃ p xs,y=.ref p/\(ao K H p xs\/aB K H p xs)/\fL x=true/\xs.all fL=true/\Q (.bl (if neg then !j7 x xs else j7 x xs)) H
theorem Kh:cf X (RO .In) (uH X.K false):=by
 intro P6 s σ H x y v u Q I rx ry h;obtain⟨p,xs,rfl,hq,fx,fs,q⟩:=h;cases ry;rcases hq with hq|hq
 ·obtain⟨its,r,pl,hz⟩:=I.list hq;refine SeqAt.in_listAt (kT x) pl.isList (λw hw=>wW rx fx r fs w (by simpa using hw)) ⟨.bl _,H,I,rfl,?_⟩;rw[show its.toArray.any (kT x)=its.any (kT x)by simp,v_ r fs];exact q
 ·obtain⟨its,r,pl,hz⟩:=I.tuple hq;refine SeqAt.in_tupleAt (kT x) pl (λw hw=>wW rx fx r fs w (by simpa using hw)) ⟨.bl _,H,I,rfl,?_⟩;rw[show its.toArray.any (kT x)=its.any (kT x)by simp,v_ r fs];exact q
theorem MH:dC X (.builtin "len") (λxs H Q=>∃ p ys,xs=[.ref p]/\(ao X.K H p ys\/aB X.K H p ys)/\Q (.int ys.length) H):=by
 intro P6 s σ H xs us Q I r h;obtain⟨p,ys,rfl,hq,q⟩:=h;obtain⟨u,rfl,rx⟩:=jB r;cases rx;have hn:=nS;rcases hq with hq|hq
 ·obtain⟨its,r',pl,hz⟩:=I.list hq;have hlen:=r'.length;exact Calls.call_len_list pl.isList (by simp only[bL]<;>omega) ⟨.int ys.length,H,I.tok _,⟨s.toks+1,by rw[bL,hlen]⟩,q⟩
 ·obtain⟨its,r',pl,hz⟩:=I.tuple hq;have hlen:=r'.length;exact len_tuple pl (by simp only[bL]<;>omega) ⟨.int ys.length,H,I.tok _,⟨s.toks+1,by rw[bL,hlen]⟩,q⟩
theorem MG:dC X (.type "list") (λxs H Q=>∃ p ys,xs=[.ref p]/\(ao X.K H p ys\/aB X.K H p ys)/\∀ l,H l=none->Q (.ref l) (upd H l (.lst ys))):=by
 intro P6 s σ H xs us Q I r h;obtain⟨p,ys,rfl,hq,q⟩:=h;obtain⟨u,rfl,rx⟩:=jB r;cases rx;have fin:∀(its:List be),ay ys its->ys.length<=sizeLine->∀(h':RW) (c':Nat),(∀ b o',s.heap.get? b=some o'->h'.get? b=some o')->
   h'.get? s.heap.objs.size=some {cls:=.type "list",dict:=none,data:=.seq its.toArray c',slots:=#[]}->EP X P6 σ Q (.ref s.heap.objs.size) {s with heap:=h'}:=λits r' hz h' c' kp e=>⟨.ref s.heap.objs.size,_,I.laid (t':=s.toks) kp (On _) (show cS X.prog X.w _ h' _ (.lst ys)from⟨hz,its,c',r',e⟩),rfl,q _ (I.hok.fresh (On _))⟩
 rcases hq with hq|hq
 ·obtain⟨its,r',pl,hz⟩:=I.list hq;have hlen:=r'.length;obtain⟨o,ho,hc,n,hd⟩:=pl.isList;exact call_list_seq p (.inl rfl) ho hc hd (λh' c' kp e=>fin its r' hz h' c' kp e) (by simp only[bL]<;>omega)
 ·obtain⟨its,r',pl,hz⟩:=I.tuple hq;have hlen:=r'.length;obtain⟨o,ho,hc,n,hd⟩:=pl;exact call_list_seq p (.inr rfl) ho hc hd (λh' c' kp e=>fin its r' hz h' c' kp e) (by simp only[bL]<;>omega)
theorem MN:dC X (.type "tuple") (λxs H Q=>∃ p ys,xs=[.ref p]/\((ao X.K H p ys/\∀ l,H l=none->Q (.ref l) (upd H l (.tup ys)))\/(aB X.K H p ys/\Q (.ref p) H))):=by
 intro P6 s σ H xs us Q I r h;obtain⟨p,ys,rfl,h⟩:=h;obtain⟨u,rfl,rx⟩:=jB r;cases rx;rcases h with⟨hq,q⟩|⟨hq,q⟩
 ·obtain⟨its,r',pl,hz⟩:=I.list hq;have hlen:=r'.length;refine call_tuple_list pl.isList (λh' kp=>?_) (by simp only[bL]<;>omega);have I1:am X P6 σ H {s with heap:=h'}:=I.kept (t':=s.toks) kp;have I2:am X P6 σ (upd H h'.objs.size (.tup ys)) {s with heap:=h'.push {cls:=.type "tuple",data:=.seq its.toArray}}:=I1.laid (t':=s.toks) (λb o e=>PB _ e) (On _) (show cS X.prog X.w _ _ _ (.tup ys)from⟨hz,its,r',IsTup.new _ _⟩)
  exact⟨.ref h'.objs.size,_,I2,rfl,q _ (I1.hok.fresh (On _))⟩
 ·obtain⟨its,r',pl,hz⟩:=I.tuple hq;exact call_tuple_same pl ⟨.ref p,H,I,rfl,q⟩
def oO (K:Fg)(T:String)(x:V)(H:Hp):Prop:=match x with
 |.str _=>T="str"|.int _=>T="int"|.ref p=>(T="list"/\∃ xs,ao K H p xs)\/(T="tuple"/\∃ o,K.lookup p=some o/\o.cls=.type "tuple"/\o.dict=none)\/
   (T="dict"/\((∃ kvs,H p=some (.dK kvs))\/∃ kvs,H p=some (.dT kvs)))\/(T="set"/\∃ S n,H p=some (.set S n))|_=>False
theorem B8(I:am X P6 σ H s)(r:az x v)(ty:oO X.K T x H):
  s.TypeIs v T/\∀ a,v=.ref a->∃ ob,s.heap.get? a=some ob/\ob.dict=none:=by cases x with
 |str z=>obtain⟨t,rfl⟩:=r;cases(show T="str" from ty);exact⟨typeIs_str s z t,λ_ e=>nomatch e⟩|int i=>obtain⟨t,rfl⟩:=r;cases(show T="int" from ty);exact⟨typeIs_int s i t,λ_ e=>nomatch e⟩|ref p=>
  cases r;rcases ty with⟨rfl,xs,hq⟩|⟨rfl,o,hk,hc,hd⟩|⟨rfl,hk⟩|⟨rfl,S,n,hk⟩
  ·obtain⟨its,_,pl,_⟩:=I.list hq;refine⟨pl.isList.typeIs,λa e=>?_⟩;cases e;obtain⟨o,n,e,c,hd,_⟩:=pl;exact⟨o,e,hd⟩
  ·refine⟨⟨o,I.kIn p o hk,hc⟩,λa e=>?_⟩;cases e;exact⟨o,I.kIn _ o hk,hd⟩
  ·have z:∃ o,s.heap.get? p=some o/\o.ExactDict:=by
    rcases hk with⟨kvs,hk⟩|⟨kvs,hk⟩
    ·obtain⟨_,_,_,_,o,_,_,e,ex,_⟩:=I.hok p _ hk;exact⟨o,e,ex⟩
    ·obtain⟨_,_,_,_,o,_,_,e,ex,_⟩:=I.hok p _ hk;exact⟨o,e,ex⟩
   obtain⟨o,e,ex⟩:=z;refine⟨⟨o,e,ex.1⟩,λa e2=>?_⟩;cases e2;exact⟨o,e,ex.2.1⟩
  ·obtain⟨o,_,_,_,e,ex,_⟩:=I.hok p _ hk;refine⟨⟨o,e,ex.1⟩,λa e2=>?_⟩;cases e2;exact⟨o,e,ex.2.1⟩|_=>exact OR ty
def qk (K:Fg)(T:String)(r:V->Ry->Hp->VK->Prop)(to:TE):TE:=λσ H Q=>to σ H λx H1=>oO K T x H1/\r x [] H1 Q
def FB (K:Fg)(T:String)(r:V->Ry->Hp->VK->Prop)(to:TE)(t:TA):TE:=λσ H Q=>to σ H λx H1=>oO K T x H1/\t σ H1 λxs H2=>r x xs H2 Q
variable {o:Expr}{es:List Expr}{to:TE}{t:TA}{name:Str}{r:V->Ry->Hp->VK->Prop}
theorem B7 (pa:PlainAttrs T)(slot:Slot T name id)(hty:typeOf (.builtin id)=So (.type "method_descriptor"))(hm:Bm X id r)(ho:PE X o to)
  (hbase:⇑(attributeBase o name X.env (RS o X.env)=RS o X.env)) (hline:⇑((apos.endLine==cpos.line)=true)):PE X (.Call (.Attribute o name apos) [] [] cpos) (qk X.K T r to):=by intro P6 s σ H Q I h;refine wpAny_Call_method0_late hbase hline (aL (ho P6 s σ H _ I h) λv s1 ⟨x,H1,I1,r1,ty,q1⟩=>?_);obtain⟨h1,h2⟩:=B8 I1 r1 ty;exact⟨T,id,pa,slot,hty,h1,h2,Calls.callWith_builtin rfl (PySem.evalArgs_none (hm P6 s1 σ H1 x [] v [] Q I1 r1 .nil q1))⟩
theorem nE (pa:PlainAttrs T)(slot:Slot T name id)(hty:typeOf (.builtin id)=So (.type "method_descriptor"))(hm:Bm X id r)(ho:PE X o to)(ha:PA X (e::es) t)
  (hbase:⇑(attributeBase o name X.env (RS o X.env)=RS o X.env))
  (hfew:⇑(((RZ cpos (RE (e::es) X.env)).all (λx=>!x.1)&&(backToKw cpos (Sy [] X.env)).all (λx=>x.1.isSome)
   &&decide ((e::es).length+([]:List Keyword).length+(if([]:List Keyword).isEmpty then 0 else 1)<30))=true))
  (hline:⇑((apos.endLine==cpos.line)=true)) (hs:⇑(RE (e::es) X.env=(false,RS e X.env)::RE es X.env)) (hplain:⇑((RZ cpos (RE es X.env)).any (·.1)=false)):
  PE X (.Call (.Attribute o name apos) (e::es) [] cpos) (FB X.K T r to t):=by intro P6 s σ H Q I h;refine wpAny_Call_method_late hbase hfew hline rfl (aL (ho P6 s σ H _ I h) λv s1 ⟨x,H1,I1,r1,ty,q1⟩=>?_);obtain⟨h1,h2⟩:=B8 I1 r1 ty;nomatch T,id,pa,slot,hty,h1,h2;have hA:=ha cpos P6 s1 σ H1 _ I1 q1;rw[hs]at hA ⊢;refine Calls.callWith_builtin (by show(false ||(RZ cpos (RE es X.env)).any (·.1))=false;rw[hplain]<;>rfl) (Calls.evalArgs_plain ?_);exact aL hA λus s2 ⟨vs,H2,I2,r2,q2⟩=>hm P6 s2 σ H2 x vs v us Q I2 r1 r2 q2
/- xs.append(e),list.index on a module's tuple .. are Bm facts of 06m -/
end
def uU (X:Cx)(id:String)(r:V->Ry->Hp->VK->Prop):Prop:=∀(P6:RA) (s:RC) (σ:St) (H:Hp) (x:V) (xs:Ry) (v:be) (us:List be) (Q:VK),am X P6 σ H s->az x v->ay xs us->r x xs H Q->
  RF (RK X.prog X.w) X.A (call (.builtin id) (v::us)) (EP X P6 σ Q) X.xe s
theorem ay.one(h:ay [x] us):∃ u,us=[u]/\az x u:=by cases h with|cons r t=>cases t;exact⟨_,rfl,r⟩
theorem ay.two(h:ay [x,y] us):∃ u v,us=[u,v]/\az x u/\az y v:=by cases h with|cons r t=>cases t with|cons q t=>cases t;exact⟨_,_,rfl,r,q⟩
theorem ay.zero:∀{us:List be},ay [] us->us=[]|_,.nil=>rfl
theorem ay.dropLast(h:ay xs us):ay xs.dropLast us.dropLast:=by induction h with
 |nil=>exact .nil|cons r t ih=>cases t with
  |nil=>exact .nil|cons q t'=>exact .cons r ih
theorem ay.eraseIdx:∀{xs:Ry}{us:List be}(i:Nat),ay xs us->ay (xs.eraseIdx i) (us.eraseIdx i)|_,_,_,.nil=>.nil|_,_,0,.cons _ t=>t|_,_,i+1,.cons r t=>.cons r (ay.eraseIdx i t)
theorem ay.rep(h:ay xs us):∀ k:Nat,ay (RB k xs).flatten (RB k us).flatten|0=>.nil|k+1=>by rw[O7,O7,List.flatten_cons,List.flatten_cons];exact ay.append h (ay.rep h k)
theorem Lu(l:List α):l.eraseIdx (l.length - 1)=l.dropLast:=by induction l with
 |nil=>rfl|cons a r ih=>cases r with
  |nil=>rfl|cons b r=>
   have e:(a::b::r).length - 1=((b::r).length - 1)+1:=by have h1:(a::b::r).length=r.length+2:=rfl;have h2:(b::r).length=r.length+1:=rfl;omega
   rw[e,List.eraseIdx_cons_succ,ih];all_goals rfl
theorem Eh:∀(l:List α) (i:Nat),(l.eraseIdx i).length<=l.length|[],_=>On _|_::_,0=>Nat.le_succ _|_::r,i+1=>Nat.succ_le_succ (Eh r i)
theorem Eg (its:List be):∀(k:Nat) (acc:List be),
  List.foldl (λx1 x2=>x1++x2) acc.toArray (RB k its.toArray)=(acc++(RB k its).flatten).toArray
 |0,acc=>by simp|k+1,acc=>by
  have e:acc.toArray++its.toArray=(acc++its).toArray:=by simp
  have e2:(acc++its)++(RB k its).flatten=acc++(RB (k+1) its).flatten:=by rw[O7,List.flatten_cons,OW]
  rw[<-e2,<-Eg its k (acc++its),<-e,O7,List.foldl_cons]
variable {t':Nat}{b:Q2}
section
variable {l:Q2}{zs:Ry}
theorem am.lset{f:Array be->Array be}(I:am X P6 σ H s)(hH:H l=some (.lst xs))(e:s.heap.get? l=some {cls:=.type "list",data:=.seq its.toArray n})(hf:f its.toArray=its'.toArray)(hv:ay ys its')(hz:ys.length<=sizeLine):
  am X P6 σ (upd H l (.lst ys)) {s with heap:=s.heap.update l (Obj.mapSeq f),toks:=t'}:=by have q:=PySem.IsL.update e f;rw[hf]at q;refine I.write (x:=l) (e:=l) (by rw[hH];exact trivial) (.inl rfl) (λb' u hb hu=>(PU s.heap (Obj.mapSeq f) (R7 hb)).trans hu) ⟨_,q⟩ ?_;exact⟨hz,its',_,hv,q⟩
theorem am.lnew(I:am X P6 σ H s)(hv:ay ys its)(hz:ys.length<=sizeLine):
  am X P6 σ (upd H s.heap.objs.size (.lst ys)) {s with heap:=s.heap.push {cls:=.type "list",data:=.seq its.toArray},toks:=t'}:=I.laid (λ_ _ q=>PB _ q) (On _) ⟨hz,its,0,hv,PJ _ rfl⟩
theorem am.fresh (I:am X P6 σ H s):H s.heap.objs.size=none:=I.hok.fresh (On _)
theorem am.lstM (I:am X P6 σ H s)(hH:H l=some (.lst xs)):xs.length<=sizeLine/\∃(its:List be) (n:Nat),ay xs its/\xs.length=its.length/\s.heap.get? l=some {cls:=.type "list",data:=.seq its.toArray n}:=by obtain⟨z,its,n,r,e⟩:=I.hok l _ hH;exact⟨z,its,n,r,r.length,e⟩
theorem Ds(h:n<=sizeLine):Builtin.List.listTooLong n=false:=by unfold Builtin.List.listTooLong;exact Oq (by omega)
end
section
def CN:V->Ry->Hp->VK->Prop:=λx vs H Q=>∃ l xs y,x=.ref l/\vs=[y]/\H l=some (.lst xs)/\xs.length<sizeLine/\Q .non (upd H l (.lst (xs++[y])))
theorem ul:uU X "list.append" CN:=by intro P6 s σ H x vs v us Q I rx rv h;obtain⟨l,xs,y,rfl,rfl,hH,hz,q⟩:=h;cases rx;obtain⟨u,rfl,ru⟩:=rv.one;obtain⟨z,its,n,r,hl,e⟩:=I.lstM hH;refine call_meets F.slot_list_append ⟨_,e,rfl⟩ F.entry_list_append (F.args_list_append_2 _ _) (PySem.list_append l its.toArray n u (by rw[bL];omega)) ⟨e,?_⟩;refine⟨.non,_,I.lset (its':=its++[u]) hH e (by simp) (r.append (.cons ru .nil)) ?_,rfl,q⟩;rw[OA,List.length_singleton];omega
def HF:V->Ry->Hp->VK->Prop:=λx vs H Q=>∃ l b xs zs,x=.ref l/\vs=[.ref b]/\H l=some (.lst xs)/\H b=some (.lst zs)/\xs.length+zs.length<=sizeLine/\Q .non (upd H l (.lst (xs++zs)))
theorem Ef:uU X "list.extend" HF:=by
 intro P6 s σ H x vs v us Q I rx rv h;obtain⟨l,b,xs,zs,rfl,rfl,hH,hB,hz,q⟩:=h;cases rx;obtain⟨u,rfl,ru⟩:=rv.one;cases ru;obtain⟨z,its,n,r,hl,e⟩:=I.lstM hH;obtain⟨z2,its2,n2,r2,hl2,e2⟩:=I.lstM hB;have hsz:its.toArray.size+its2.toArray.size<=sizeLine:=by rw[bL,bL];omega
 have hlong:¬ (!its.toArray.isEmpty&&Builtin.List.listTooLong (its.toArray.size+its2.toArray.size))=true:=by rw[Ds hsz,Pl];exact Ox
 refine call_meets F.slot_list_extend ⟨_,e,rfl⟩ F.entry_list_extend (F.args_list_extend_2 _ _)
  (AutoSeq1.list_extend_list_list_0 l its.toArray n b its2.toArray n2 hlong (by rw[bL];omega) (by omega)) ⟨e,e2,?_⟩
 refine⟨.non,_,I.lset (its':=its++its2) hH e (by simp) (r.append r2) ?_,rfl,q⟩;rw[OA];omega
def qx:V->Ry->Hp->VK->Prop:=λx vs H Q=>∃ l xs y,x=.ref l/\vs=[]/\H l=some (.lst xs)/\xs[xs.length - 1]?=some y/\Q y (upd H l (.lst xs.dropLast))
theorem B6:uU X "list.pop" qx:=by
 intro P6 s σ H x vs v us Q I rx rv h;obtain⟨l,xs,y,rfl,rfl,hH,hy,q⟩:=h;cases rx;have hus:=rv.zero;subst hus;obtain⟨z,its,n,r,hl,e⟩:=I.lstM hH;obtain⟨u,hu,ru⟩:=r.get hy;have hy':its.toArray[its.toArray.size - 1]?=some u:=by show its.toArray[its.length - 1]?=some u;rw[<-Array.getElem?_toList,<-hl];exact hu
 refine call_meets F.slot_list_pop ⟨_,e,rfl⟩ F.entry_list_pop (F.args_list_pop_1 _) (MeetsSeq.list_pop_last l its.toArray n u hy' (by rw[bL];omega)) ⟨e,?_⟩;refine⟨y,_,I.lset (its':=its.dropLast) hH e ?_ r.dropLast ?_,ru,q⟩
 ·show its.toArray.eraseIdxIfInBounds (its.toArray.size - 1)=its.dropLast.toArray;rw[bL,List.eraseIdxIfInBounds_toArray,Lu]
 ·rw[List.length_dropLast];omega
def B5:V->Ry->Hp->VK->Prop:=λx vs H Q=>∃ l xs i k y,x=.ref l/\vs=[.int i]/\H l=some (.lst xs)/\-(2 ^ 63)<=i/\i<2 ^ 63/\seqIndex? i xs.length=some k/\xs[k]?=some y/\Q y (upd H l (.lst (xs.eraseIdx k)))
theorem JG:uU X "list.pop" B5:=by
 intro P6 s σ H x vs v us Q I rx rv h;obtain⟨l,xs,i,k,y,rfl,rfl,hH,h1,h2,hk,hy,q⟩:=h;cases rx;obtain⟨u,rfl,ru⟩:=rv.one;obtain⟨t,rfl⟩:=ru;obtain⟨z,its,n,r,hl,e⟩:=I.lstM hH;obtain⟨w,hw,rw'⟩:=r.get hy;refine call_meets F.slot_list_pop ⟨_,e,rfl⟩ F.entry_list_pop (F.args_list_pop_2 _ _)
  (MeetsSeq.list_pop_at l its.toArray n i t k w (fitsIndex_both h1 h2) (by rw[bL,<-hl];exact hk) (by rw[<-Array.getElem?_toList];exact hw) (by rw[bL];omega)) ⟨e,?_⟩
 refine⟨y,_,I.lset (its':=its.eraseIdx k) hH e ?_ (r.eraseIdx k) ?_,rw',q⟩
 ·show its.toArray.eraseIdxIfInBounds k=(its.eraseIdx k).toArray;rw[List.eraseIdxIfInBounds_toArray]
 ·have:=Eh xs k;omega
def qG:R2:=λx y H Q=>∃ l b xs zs,x=.ref l/\y=.ref b/\H l=some (.lst xs)/\H b=some (.lst zs)/\xs.length+zs.length<=sizeLine/\∀ p,H p=none->Q (.ref p) (upd H p (.lst (xs++zs)))
theorem HB:cf X (Sh .Add) qG:=by
 intro P6 s σ H x y v u Q I rx ry h;obtain⟨l,b,xs,zs,rfl,rfl,hH,hB,hz,q⟩:=h;cases rx;cases ry;obtain⟨z,its,n,r,hl,e⟩:=I.lstM hH;obtain⟨z2,its2,n2,r2,hl2,e2⟩:=I.lstM hB;refine PySem.P.add_list e e2 ?_ (by rw[bL,bL];omega);have ea:its.toArray++its2.toArray=(its++its2).toArray:=by simp
 rw[ea];exact⟨.ref _,_,I.lnew (t':=s.toks) (r.append r2) (by rw[OA];omega),rfl,q _ I.fresh⟩
def qw:R2:=λx y H Q=>∃ l k xs,x=.ref l/\y=.int k/\H l=some (.lst xs)/\-(2 ^ 63)<=k/\k<2 ^ 63/\xs.length*k.toNat<=sizeLine/\
 ∀ p,H p=none->Q (.ref p) (upd H p (.lst (RB k.toNat xs).flatten))
theorem HE(xs:List α)(k:Nat):(RB k xs).flatten.length=k*xs.length:=by induction k with
 |zero=>simp|succ k ih=>rw[O7,List.flatten_cons,OA,ih,Nat.succ_mul,Nat.add_comm]
theorem HA:cf X (Sh .Mult) qw:=by
 intro P6 s σ H x y v u Q I rx ry h;obtain⟨l,k,xs,rfl,rfl,hH,h1,h2,hz,q⟩:=h;cases rx;obtain⟨t,rfl⟩:=ry;obtain⟨z,its,n,r,hl,e⟩:=I.lstM hH;have hlen:its.toArray.size*k.toNat<=sizeLine:=by rw[bL,<-hl];exact hz
 have hcap:¬ its.toArray.size*k.toNat>(2 ^ 63 - 1)/8:=by
  have:(sizeLine:Nat)<=(2 ^ 63 - 1)/8:=by decide
  omega
 have hfit:¬ (!Builtin.List.listFitsIndex k)=true:=by rw[fitsIndex_both h1 h2];exact Ox
 have hlong:¬ Builtin.List.listTooLong (its.toArray.size*k.toNat)=true:=by rw[Ds hlen];exact Ox
 have hnew:List.foldl (λx1 x2=>x1++x2) #[] (RB (if its.toArray.isEmpty=true then 0 else k.toNat) its.toArray)=(RB k.toNat its).flatten.toArray:=by
  have f0:∀ m:Nat,List.foldl (λx1 x2=>x1++x2) #[] (RB m its.toArray)=(RB m its).flatten.toArray:=λm=>by have:=Eg its m [];rw[List.nil_append]at this;exact this
  rw[f0];cases its with
  |nil=>simp|cons a r'=>rw[Oh (by simp)]
 refine wpAny_binaryOp_repeat_ref (T:="list") (U:="int") (by decide) ⟨_,e,rfl⟩ (λs'=>typeIs_int s' k t) noFill_list_mul F.fills_int_mul F.slot_int_rmul repeat_list F.slot_int_index.lookup
  (call_meets F.slot_int_rmul (typeIs_int s k t) F.entry_int_rmul (F.args_int_rmul_2 _ _) (int___rmul___int_list k t l its.toArray n)
   ⟨e,rfl,⟨_,e,rfl⟩,call_meets F.slot_list_mul ⟨_,e,rfl⟩ F.entry_list_mul (F.args_list_mul_2 _ _) (AutoListH.list___mul___list_int_3 l its.toArray n k t hfit hcap hlong) ⟨e,?_⟩⟩)
 rw[hnew];exact⟨.ref _,_,I.lnew (t':=s.toks) (r.rep k.toNat) (by rw[HE,Nat.mul_comm];exact hz),rfl,q _ I.fresh⟩
end
variable {w:R3}{prog:RP}{E:be->RC->Prop}
section
set_option maxRecDepth 100000 in
end
section
end
variable {o:Option V}
section
variable {κ:Type} [DecidableEq κ]
def aG (kvs:List (κ×V))(k:κ):Option V:=(kvs.find? λkv=>decide (kv.1=k)).map (·.2)
def aZ (kvs:List (κ×V))(k:κ)(v:V):List (κ×V):=if(kvs.any λkv=>decide (kv.1=k))=true then kvs.map (λkv=>if kv.1=k then(kv.1,v)else kv)else kvs++[(k,v)]
def fw (kvs:List (κ×V))(k:κ):List (κ×V):=kvs.filter λkv=>decide (kv.1≠k)
theorem ir {p:κ×V}{r:List (κ×V)}{k:κ}(e:p.1=k):aG (p::r) k=some p.2:=by simp[aG,List.find?_cons,e]
theorem ib {p:κ×V}{r:List (κ×V)}{k:κ}(e:¬ p.1=k):aG (p::r) k=aG r k:=by simp[aG,List.find?_cons,e]
theorem lN (k:κ):∀ kvs:List (κ×V),(kvs.any λkv=>decide (kv.1=k))=(aG kvs k).isSome
 |[]=>rfl|p::r=>by
  rw[Ph];by_cases e:p.1=k
  ·simp only[ir e,Og e,Bool.true_or,Option.isSome_some]
  ·rw[ib e,Oq e,Bool.false_or];exact lN k r
theorem Dr (k j:κ)(y:V):∀ kvs:List (κ×V),aG (kvs.map λkv=>if kv.1=k then(kv.1,y)else kv) j=(aG kvs j).map λx=>if j=k then y else x
 |[]=>rfl|p::r=>by
  have ih:=Dr k j y r;rw[bX];by_cases h:p.1=k
  ·rw[Ol h];by_cases e:p.1=j
   ·rw[ir (p:=(p.1,y)) e,ir e,Sg,Ol (e.symm.trans h)]
   ·rw[ib (p:=(p.1,y)) e,ib e,ih]
  ·rw[Oh h];by_cases e:p.1=j
   ·rw[ir (p:=p) e,ir e,Sg,Oh (λz=>h (e.trans z))]
   ·rw[ib (p:=p) e,ib e,ih]
theorem Ee (k j:κ)(y:V):∀ kvs:List (κ×V),aG kvs k=none->aG (kvs++[(k,y)]) j=if j=k then some y else aG kvs j
 |[],_=>by
  by_cases e:k=j
  ·rw[Ol e.symm];exact ir (p:=(k,y)) e
  ·rw[Oh (λz=>e z.symm)];exact ib (p:=(k,y)) e|p::r,hn=>by
  rw[List.cons_append];have hk:¬ p.1=k:=λz=>by rw[ir z]at hn;cases hn
  rw[ib hk]at hn;have ih:=Ee k j y r hn;by_cases e:p.1=j
  ·rw[ir e,ir e,Oh (λz=>hk (e.trans z))]
  ·rw[ib e,ib e,ih]
theorem ox (kvs:List (κ×V))(k j:κ)(y:V):aG (aZ kvs k y) j=if j=k then some y else aG kvs j:=by
 unfold aZ;by_cases a:(kvs.any λkv=>decide (kv.1=k))=true
 ·rw[Ol a,Dr];rw[lN]at a;by_cases e:j=k
  ·obtain⟨x,hx⟩:=Option.isSome_iff_exists.mp a;rw[Ol e,e,hx,Sg,Ol rfl]
  ·rw[Oh e];cases aG kvs j with
   |none=>rfl|some x=>rw[Sg,Oh e]
 ·rw[Oh a];refine Ee k j y kvs ?_;rw[lN]at a;cases q:aG kvs k with
  |none=>rfl|some x=>rw[q]at a;exact(a rfl).elim
theorem xT (kvs:List (κ×V))(k:κ)(v:V):(aZ kvs k v).length<=kvs.length+1:=by
 unfold aZ;split
 ·rw[aT];omega
 ·rw[OA,OC,List.length_nil];omega
theorem JF {kvs:List (κ×V)}{k:κ}(v:V)(h:aG kvs k=none):aZ kvs k v=kvs++[(k,v)]:=by unfold aZ;rw[lN,h];exact Oh (by decide)
variable {u:Option be}
theorem cv.isSome_eq(r:cv o u):o.isSome=u.isSome:=by cases o with
 |none=>cases u with
  |none=>rfl|some _=>exact(show False from r).elim
 |some _=>cases u with
  |none=>exact(show False from r).elim|some _=>rfl
theorem cv.getD{d:V}{d':be}(r:cv o u)(rd:az d d'):az (o.getD d) (u.getD d'):=by cases o with
 |none=>cases u with
  |none=>exact rd|some _=>exact(show False from r).elim
 |some _=>cases u with
  |none=>exact(show False from r).elim|some _=>exact r
theorem KV.val {kvs:List (κ×V)}{vs:List (κ×be)}(r:KV kvs vs)(k:κ):cv (aG kvs k) (valueAt vs k):=by unfold KV at r;induction r with
 |nil=>exact O8|@cons p q ps qs h t ih=>
  obtain⟨h1,h2⟩:=h;by_cases e:p.1=k
  ·have e':q.1=k:=h1.symm.trans e;have b:valueAt (q::qs) k=some q.2:=by simp[valueAt,List.find?_cons,e']
   rw[ir e,b];exact h2
  ·have e':¬ q.1=k:=λz=>e (h1.trans z);have b:valueAt (q::qs) k=valueAt qs k:=by simp[valueAt,List.find?_cons,e']
   rw[ib e,b];exact ih
theorem KV.any {kvs:List (κ×V)}{vs:List (κ×be)}(r:KV kvs vs)(k:κ):(kvs.any λkv=>decide (kv.1=k))=vs.any λkv=>decide (kv.1=k):=by unfold KV at r;induction r with
 |nil=>rfl|cons h t ih=>rw[Ph,Ph,ih,h.1]
theorem KV.repl{kvs:List (κ×V)}{vs:List (κ×be)}(r:KV kvs vs)(k:κ){u:be}(ry:az y u):
  KV (kvs.map λkv=>if kv.1=k then(kv.1,y)else kv) (vs.map λkv=>if kv.1=k then(kv.1,u)else kv):=by unfold KV at r ⊢;induction r with
 |nil=>exact .nil|@cons p q ps qs h t ih=>
  rw[bX,bX];refine .cons ?_ ih;obtain⟨h1,h2⟩:=h;by_cases e:p.1=k
  ·rw[Ol e,Ol (h1.symm.trans e)];exact⟨h1,ry⟩
  ·rw[Oh e,Oh (λz=>e (h1.trans z))];exact⟨h1,h2⟩
theorem KV.put{kvs:List (κ×V)}{vs:List (κ×be)}(r:KV kvs vs)(k:κ){u:be}(ry:az y u):KV (aZ kvs k y) (stored vs k u):=by
 unfold aZ stored;rw[r.any k];by_cases e:(vs.any λkv=>decide (kv.1=k))=true
 ·rw[Ol e,Ol e];exact r.repl k ry
 ·rw[Oh e,Oh e];exact Paired.snoc r ⟨rfl,ry⟩
theorem KV.drop {kvs:List (κ×V)}{vs:List (κ×be)}(r:KV kvs vs)(k:κ):KV (fw kvs k) (without vs k):=by unfold KV at r ⊢;unfold fw without;induction r with
 |nil=>exact .nil|@cons p q ps qs h t ih=>
  obtain⟨h1,h2⟩:=h;rw[Pc,Pc];by_cases e:p.1=k
  ·have a:¬ decide (p.1≠k)=true:=by simp[e]
   have b:¬ decide (q.1≠k)=true:=by simp[h1.symm.trans e]
   rw[Oh a,Oh b];exact ih
  ·have e':¬ q.1=k:=λz=>e (h1.trans z);have a:decide (p.1≠k)=true:=by simp[e]
   have b:decide (q.1≠k)=true:=by simp[e']
   rw[Ol a,Ol b];exact .cons ⟨h1,h2⟩ ih
theorem KV.keys {kvs:List (κ×V)}{vs:List (κ×be)}(r:KV kvs vs):kvs.map (·.1)=vs.map (·.1):=by unfold KV at r;induction r with
 |nil=>rfl|cons h t ih=>rw[bX,bX,ih,h.1]
theorem KV.length {kvs:List (κ×V)}{vs:List (κ×be)}(r:KV kvs vs):kvs.length=vs.length:=Paired.length r
theorem Dq (kvs:List (κ×V))(k:κ):(fw kvs k).length<=kvs.length:=List.length_filter_le _ _
end
variable {P:RP}
theorem jA{k:bj}(r:az (kV k) u):(eh P w).is k u=true:=by cases k with
 |inl i=>obtain⟨t,e⟩:=(show ∃ t,u=Value.int i t from r);subst e;exact Mr P w i t|inr x=>obtain⟨t,e⟩:=(show ∃ t,u=Value.str x t from r);subst e;exact Mq P w x t
theorem Ed:∀{ks:List bj}{us:List be},ay (ks.map kV) us->ItemsAre (eh P w) ks us
 |[],_,r=>by rw[O6]at r;cases r;exact .nil|k::ks,_,r=>by rw[bX]at r;cases r with|cons h t=>exact .cons (jA h) (Ed t)
abbrev KT (H:Hp):List (List bj×V)->List (List bj×Q2×be)->Prop:=Paired λp q=>p.1=q.1/\H q.2.1=some (.tup (p.1.map kV))/\az p.2 q.2.2
variable {kvs:List (List bj×V)}
theorem KT.val{xs:List (List bj×Q2×be)}(r:KT H kvs xs)(k:List bj):cv (aG kvs k) ((atKey xs k).map (·.2)):=by induction r with
 |nil=>exact O8|@cons p q ps qs h t ih=>
  obtain⟨h1,_,h2⟩:=h;by_cases e:p.1=k
  ·have e':q.1=k:=h1.symm.trans e;have b:atKey (q::qs) k=some q.2:=by simp[atKey,List.find?_cons,e']
   rw[ir e,b];exact h2
  ·have e':¬ q.1=k:=λz=>e (h1.trans z);have b:atKey (q::qs) k=atKey qs k:=by simp[atKey,List.find?_cons,e']
   rw[ib e,b];exact ih
theorem KT.repl{xs:List (List bj×Q2×be)}(r:KT H kvs xs)(k:List bj)(ry:az y u):
  KT H (kvs.map λkv=>if kv.1=k then(kv.1,y)else kv) (xs.map (putAt k u)):=by induction r with
 |nil=>exact .nil|@cons p q ps qs h t ih=>
  rw[bX,bX];refine .cons ?_ ih;obtain⟨h1,h2,h3⟩:=h;unfold putAt;by_cases e:p.1=k
  ·rw[Ol e,Ol (h1.symm.trans e)];exact⟨h1,h2,ry⟩
  ·rw[Oh e,Oh (λz=>e (h1.trans z))];exact⟨h1,h2,h3⟩
theorem KT.put{xs:List (List bj×Q2×be)}(r:KT H kvs xs)(k:List bj)(hb:H b=some (.tup (k.map kV)))(ry:az y u):
  KT H (aZ kvs k y) (storedH xs k b u):=by
 have e:(kvs.any λkv=>decide (kv.1=k))=(atKey xs k).isSome:=by rw[lN,(r.val k).isSome_eq,Option.isSome_map]
 unfold aZ storedH;rw[e];by_cases q:(atKey xs k).isSome=true
 ·rw[Ol q,Ol q];exact r.repl k ry
 ·rw[Oh q,Oh q];exact Paired.snoc r ⟨rfl,hb,ry⟩
variable {H':Hp}
theorem KT.keeps{xs:List (List bj×Q2×be)}(r:KT H kvs xs)(ht:∀ b ys,H b=some (.tup ys)->H' b=some (.tup ys)):KT H' kvs xs:=Paired.mapP r λ_ _ z=>⟨z.1,ht _ _ z.2.1,z.2.2⟩
variable {kvs:List (bj×V)}{a:Q2}
section
variable {h:RW}
theorem BR {u:HO}(ok:dk P w H h)(e:Rd H a u):cS P w H h a u:=e.ok ok
theorem l7(ok:dk P w H h)(e:Rd H a (.dK kvs)):kvs.length<=sizeLine/\(a==Sl)=false/\∃ vs,KV kvs vs/\h.DictOf (eh P w) a vs:=show cS P w H h a (.dK kvs)from BR ok e
theorem l6(ok:dk P w H h)(e:H a=some (.dK kvs)):kvs.length<=sizeLine/\(a==Sl)=false/\∃ vs,KV kvs vs/\h.DictOf (eh P w) a vs:=l7 ok (.inl e)
theorem nR {ks:List bj}(ok:dk P w H h)(e:H a=some (.tup (ks.map kV))):(tupleKind (eh P w)).is h ks a:=by obtain⟨_,its,r,o,h1,h2,n,h3⟩:=(show cS P w H h a (.tup (ks.map kV))from ok a _ e);exact⟨o,its.toArray,n,h1,h2,h3,by simpa using Ed r⟩
variable {kvs:List (List bj×V)}
theorem lZ(ok:dk P w H h)(e:Rd H a (.dT kvs)):kvs.length<=sizeLine/\(a==Sl)=false/\
  ∃ xs,KT H kvs xs/\h.DictOfH (tupleKind (eh P w)) a xs:=by
 obtain⟨z,y,xs,r,o,es,ep,h1,h2,h3,h4,h5⟩:=(show cS P w H h a (.dT kvs)from BR ok e);refine⟨z,y,xs,r,o,es,ep,h1,h2,h3,h4,λx hx=>?_,h5⟩;have all:∀{l:List (List bj×V)}{m:List (List bj×Q2×be)},KT H l m->∀ x∈m,(tupleKind (eh P w)).is h x.1 x.2.1:=by intro l m q;induction q with
  |nil=>intro x hx;exact nomatch hx|@cons p q ps qs hq t ih=>
   intro x hx;rcases Oe.mp hx with e|hx
   ·subst e;exact nR ok (by rw[<-hq.1];exact hq.2.1)
   ·exact ih x hx
 exact all r x hx
theorem rV(ok:dk P w H h)(e:H a=some (.dT kvs)):kvs.length<=sizeLine/\(a==Sl)=false/\
  ∃ xs,KT H kvs xs/\h.DictOfH (tupleKind (eh P w)) a xs:=lZ ok (.inl e)
end
def bh (H:Hp)(a:Q2)(y:V)(r:Option V):Prop:=(∃ kvs k,Rd H a (.dK kvs)/\y=kV k/\r=aG kvs k)\/∃ kvs k b,Rd H a (.dT kvs)/\y=.ref b/\H b=some (.tup (k.map kV))/\r=aG kvs k
def eN (H:Hp)(a:Q2)(y v:V)(H':Hp):Prop:=(∃ kvs k,H a=some (.dK kvs)/\y=kV k/\kvs.length<sizeLine/\H'=upd H a (.dK (aZ kvs k v)))\/
 ∃ kvs k b,H a=some (.dT kvs)/\y=.ref b/\H b=some (.tup (k.map kV))/\kvs.length<sizeLine/\H'=upd H a (.dT (aZ kvs k v))
theorem bh.k{k:bj}(e:H a=some (.dK kvs)):bh H a (kV k) (aG kvs k):=.inl ⟨kvs,k,.inl e,rfl,rfl⟩
theorem eN.k{k:bj}{v:V}(e:H a=some (.dK kvs))(hl:kvs.length<sizeLine):eN H a (kV k) v (upd H a (.dK (aZ kvs k v))):=.inl ⟨kvs,k,e,rfl,hl,rfl⟩
variable {r:be}{Q:be->RC->Prop}{h':RW}
section
variable {v:V}
theorem am.big (I:am X P6 σ H s):Sl<s.heap.objs.size:=by have h:RJ<s.heap.objs.size:=(I.mod.glob.keeps I.bk).lt;exact Nat.lt_trans (by decide) h
theorem Kg(hu:A.units+1<cLine)(I:am X P6 σ H s)(g:bh H a y (some v))(ry:az y u)(h:∀ w' s',am X P6 σ H s'->az v w'->Q w' s'):
  RF (RK X.prog X.w) A (getItem (.ref a) u) Q E s:=by
 rcases g with⟨kvs,k,e,ey,l⟩|⟨kvs,k,b,e,ey,eb,l⟩
 ·subst ey;obtain⟨z,hd,vs,rel,dd⟩:=l7 I.hok e;obtain⟨w',hw,rw'⟩:=cv.some_of (v:=v) (o:=valueAt vs k) (by rw[l];exact rel.val k);exact wpAny_getItem_of (jA ry) dd.mapOf hw (h w' _ (I.tok _) rw')
 ·subst ey;cases(show u=RI b from ry);obtain⟨z,hd,xs,rel,dd⟩:=lZ I.hok e;obtain⟨w',hw,rw'⟩:=cv.some_of (v:=v) (o:=(atKey xs k).map (·.2)) (by rw[l];exact rel.val k);obtain⟨p,hp,hp2⟩:=bV.mp hw;refine wpAny_getItem_heap (P1 hu) (nR I.hok eb) dd hp ?_;rw[hp2];exact h w' _ (I.tok _) rw'
theorem zP(hu:A.units+1<cLine)(I:am X P6 σ H s)(g:bh H a y o)(ry:az y u)(h:∀ s',am X P6 σ H s'->Q (.bool o.isSome) s'):
  RF (RK X.prog X.w) A (RO .In u (.ref a)) Q E s:=by
 rcases g with⟨kvs,k,e,ey,l⟩|⟨kvs,k,b,e,ey,eb,l⟩
 ·subst ey;obtain⟨z,hd,vs,rel,dd⟩:=l7 I.hok e;refine wpAny_in_of (jA ry) hd dd.mapOf ?_;rw[<-(rel.val k).isSome_eq,<-l];exact h _ (I.tok _)
 ·subst ey;cases(show u=RI b from ry);obtain⟨z,hd,xs,rel,dd⟩:=lZ I.hok e;refine wpAny_in_heap (P1 hu) (nR I.hok eb) hd dd ?_;have q:=(rel.val k).isSome_eq;rw[Option.isSome_map]at q;rw[<-q,<-l];exact h _ (I.tok _)
theorem HD(hu:A.units+1<cLine)(I:am X P6 σ H s)(g:bh H a y o)(ry:az y u)(h:∀ s',am X P6 σ H s'->Q (.bool (!o.isSome)) s'):
  RF (RK X.prog X.w) A (RO .NotIn u (.ref a)) Q E s:=by
 rcases g with⟨kvs,k,e,ey,l⟩|⟨kvs,k,b,e,ey,eb,l⟩
 ·subst ey;obtain⟨z,hd,vs,rel,dd⟩:=l7 I.hok e;refine wpAny_notIn_of (jA ry) hd dd.mapOf ?_;rw[<-(rel.val k).isSome_eq,<-l];exact h _ (I.tok _)
 ·subst ey;cases(show u=RI b from ry);obtain⟨z,hd,xs,rel,dd⟩:=lZ I.hok e;refine wpAny_notIn_heap (P1 hu) (nR I.hok eb) hd dd ?_;have q:=(rel.val k).isSome_eq;rw[Option.isSome_map]at q;rw[<-q,<-l];exact h _ (I.tok _)
theorem pH{ob:HO}(I:am X P6 σ H s)(mu:sF (H a))(hs:Heap.SameBut a s.heap h')(he:∃ q,h'.get? a=some q)(new:cS X.prog X.w (upd H a ob) h' a ob):
  am X P6 σ (upd H a ob) {s with heap:=h',toks:=t'}:=I.write (x:=a) (e:=a) mu (.inl rfl) (λb q hb z=>(hs.2 b hb).trans z) he new
theorem tj{vs:List (bj×be)}(z:kvs.length<=sizeLine)(hd:(a==Sl)=false)(rel:KV kvs vs)(dd:h'.DictOf (eh P w) a vs):
  cS P w H' h' a (.dK kvs):=⟨z,hd,vs,rel,dd⟩
theorem Kf{Q:Unit->RC->Prop}(hu:A.units+1<cLine)(I:am X P6 σ H s)(g:eN H a y v H')(ry:az y u)(rv:az v r)(h:∀ s',am X P6 σ H' s'->Q () s'):
  RF (RK X.prog X.w) A (setItem (.ref a) u r) Q E s:=by
 rcases g with⟨kvs,k,e,ey,l,eH⟩|⟨kvs,k,b,e,ey,eb,l,eH⟩
 ·subst ey eH;obtain⟨z,hd,vs,rel,dd⟩:=l6 I.hok e;have hz:vs.length<=sizeLine:=by rw[<-rel.length];exact z
  have hl:(aZ kvs k v).length<=sizeLine:=by have:=xT kvs k v;omega
  refine wpAny_setItem_pairs (hsz:=hz) (jA ry) dd λh' dd' hs=>h _ ?_;have he:∃ q,h'.get? a=some q:=let ⟨q,_,_,hq,_⟩:=dd';⟨q,hq⟩;exact pH I (by rw[e];exact O8) hs he (tj hl hd (rel.put k rv) dd')
 ·subst ey eH;cases(show u=RI b from ry);obtain⟨z,hd,xs,rel,dd⟩:=rV I.hok e;have hz:xs.length<=sizeLine:=by rw[<-Paired.length rel];exact z
  have hl:(aZ kvs k v).length<=sizeLine:=by have:=xT kvs k v;omega
  refine wpAny_setItem_heap (hsz:=hz) (P1 hu) (nR I.hok eb) dd λh' dd' hs=>h _ ?_;obtain⟨q,es,ep,hq,h2,h3,h4,_,h5⟩:=dd';refine pH I (by rw[e];exact O8) hs ⟨q,hq⟩ ⟨hl,hd,_,(rel.put k eb rv).keeps λc ys ec=>?_,q,es,ep,hq,h2,h3,h4,h5⟩;rw[aC (sT ec e (λz=>nomatch z))];exact ec
end
section
variable {k:bj}
theorem Oa {Q:Unit->RC->Prop}(I:am X P6 σ H s)(e:H a=some (.dK kvs))(ry:az (kV k) u)(l:(aG kvs k).isSome=true)(h:∀ s',am X P6 σ (upd H a (.dK (fw kvs k))) s'->Q () s'):
  RF (RK X.prog X.w) A (delItem (.ref a) u) Q E s:=by
 obtain⟨z,hd,vs,rel,dd⟩:=l6 I.hok e;refine wpAny_delItem_slot dd.typeIs (by decide) PySem.F.slot_dict_delitem
  (call_meetsIn PySem.F.slot_dict_delitem dd.typeIs PySem.F.entry_dict_delitem (PySem.F.args_dict_delitem_2 _ _) (meets_dict_delitem_pairs (eh X.prog X.w) a (jA ry)) ⟨vs,dd,by rw[<-rel.length];exact z,by rw[<-(rel.val k).isSome_eq];exact l,λh' dd' hs=>h _ ?_⟩)
 have he:∃ q,h'.get? a=some q:=let ⟨q,_,_,hq,_⟩:=dd';⟨q,hq⟩;exact pH I (by rw[e];exact O8) hs he (tj (OI (Dq kvs k) z) hd (rel.drop k) dd')
theorem rW{v:V}{more:List be}(I:am X P6 σ H s)(e:H a=some (.dK kvs))(ry:az (kV k) u)(l:aG kvs k=some v)(hm:more=[]\/∃ x,more=[x])(h:∀ w' s',am X P6 σ (upd H a (.dK (fw kvs k))) s'->az v w'->Q w' s'):RF (RK X.prog X.w) A (call (.builtin "dict.pop") (.ref a::u::more)) Q E s:=by
 obtain⟨z,hd,vs,rel,dd⟩:=l6 I.hok e;obtain⟨w',hw,rw'⟩:=cv.some_of (v:=v) (o:=valueAt vs k) (by rw[<-l];exact rel.val k);have hp:(keyPart u).isSome=true:=by cases k with
  |inl i=>obtain⟨t,q⟩:=(show ∃ t,u=Value.int i t from ry);subst q;rfl|inr x=>obtain⟨t,q⟩:=(show ∃ t,u=Value.str x t from ry);subst q;rfl
 have ha:argsOk "dict.pop" ⟨.ref a::u::more,[]⟩:=by
  rcases hm with q|⟨x,q⟩
  ·subst q;exact PySem.F.args_dict_pop_2 _ _
  ·subst q;exact PySem.F.args_dict_pop_3 _ _ _
 refine call_meetsIn PySem.F.slot_dict_pop dd.typeIs PySem.F.entry_dict_pop ha (meets_dict_pop_there (eh X.prog X.w) a (jA ry) more hm hp)
  ⟨vs,w',dd,by rw[<-rel.length];exact z,hw,λh' dd' hs=>h w' _ ?_ rw'⟩
 have he:∃ q,h'.get? a=some q:=let ⟨q,_,_,hq,_⟩:=dd';⟨q,hq⟩;exact pH I (by rw[e];exact O8) hs he (tj (OI (Dq kvs k) z) hd (rel.drop k) dd')
theorem Hy(I:am X P6 σ H s)(e:H a=some (.dK kvs))(ry:az (kV k) u)(l:aG kvs k=none)(h:∀ s',am X P6 σ H s'->Q r s'):
  RF (RK X.prog X.w) A (call (.builtin "dict.pop") [.ref a,u,r]) Q E s:=by
 obtain⟨z,hd,vs,rel,dd⟩:=l6 I.hok e;have hn:valueAt vs k=none:=cv.none_of (by rw[<-l];exact rel.val k);have hp:(keyPart u).isSome=true:=by cases k with
  |inl i=>obtain⟨t,q⟩:=(show ∃ t,u=Value.int i t from ry);subst q;rfl|inr x=>obtain⟨t,q⟩:=(show ∃ t,u=Value.str x t from ry);subst q;rfl
 exact call_meetsIn PySem.F.slot_dict_pop dd.typeIs PySem.F.entry_dict_pop (PySem.F.args_dict_pop_3 _ _ _) (meets_dict_pop_default (eh X.prog X.w) a (jA ry) hd hp r) ⟨vs,dd,hn,h _ (I.tok _)⟩
end
def sE (i:Expr):Prop:=∀ ov iv,subscripted i false ov iv=operate [ov,iv] (getItem ov iv)
variable {value:Expr}
theorem Iq{env:Env}{slice:Expr}(hl:typeLookup (.type T) "__getitem__"=So (some (.builtin id)))(hs:sE slice)(h:RF (RK prog w) A (RS value env) (λo s₁=>RF (RK prog w) A (RS slice env) (λi s₂=>s₂.TypeIs o T/\RF (RK prog w) A (getItem o i) Q E s₂) E s₁) E s):
  RF (RK prog w) A (RS (.Subscript value slice pos) env) Q E s:=by
 refine Subscript_ (PL h (λo s₁ h₁=>PL h₁ (λi s₂ h₂=>?_) λ_ _ x=>x) λ_ _ x=>x);obtain⟨hT,h₂⟩:=h₂;unfold subscriptTail;refine Pz ?_;rw[getitemInPython_of_ne hT.not_modules];refine Pz (wpAny_specialOf hT hl ?_);have fin:RF (RK prog w) A (subscripted slice false o i) (λr s₃=>RF (RK prog w) A (letTemporaryGo value o r>>=λ_=>So r) Q E s₃) E s₂:=by rw[hs o i];exact wpAny_operating (PL h₂ (λr s₃ h₃=>Pz (wpAny_letTemporaryGo (PF h₃))) λ_ _ x=>x)
 first|exact PF (Pz fin)|exact Pz (PF (Pz fin))|exact Pz fin
theorem LF(I:am X P6 σ H s)(g:bh H a y o):s.TypeIs (.ref a) "dict":=by
 rcases g with⟨kvs,k,e,_,_⟩|⟨kvs,k,b,e,_,_,_⟩
 ·obtain⟨_,_,vs,_,dd⟩:=l7 I.hok e;exact dd.typeIs
 ·obtain⟨_,_,xs,_,dd⟩:=lZ I.hok e;exact dd.typeIs
def BQ (td ty:TE):TE:=λσ H Q=>td σ H λx H1=>ty σ H1 λy H2=>∃ a v,x=.ref a/\bh H2 a y (some v)/\Q v H2
def qj (ty td:TE):TE:=λσ H Q=>ty σ H λy H1=>td σ H1 λx H2=>∃ a o,x=.ref a/\bh H2 a y o/\Q (.bl o.isSome) H2
def CM (ty td:TE):TE:=λσ H Q=>ty σ H λy H1=>td σ H1 λx H2=>∃ a o,x=.ref a/\bh H2 a y o/\Q (.bl (!o.isSome)) H2
def BP (td ty tv:TE):TS:=λD σ H=>tv σ H λv H1=>td σ H1 λx H2=>ty σ H2 λy H3=>∃ a H4,x=.ref a/\eN H3 a y v H4/\D.nx σ H4
variable {tv td ty:TE}
section
variable {o i:Expr}{pos' tpos:Pos}
theorem jU (hu:X.A.units+1<cLine)(ho:PE X o td)(hi:PE X i ty)(hs:sE i):PE X (.Subscript o i pos) (BQ td ty):=by intro P6 s σ H Q I h;refine Iq PySem.F.slot_dict_getitem.lookup hs (aL (ho P6 s σ H _ I h) λu s1 ⟨x,H1,I1,rx,q1⟩=>aL (hi P6 s1 σ H1 _ I1 q1) λiv s2 ⟨y,H2,I2,ry,a,v,ex,g,q2⟩=>?_);subst ex;obtain rfl:u=RI a:=rx;exact⟨LF I2 g,Kg hu I2 g ry λw' s3 I3 rw'=>⟨v,H2,I3,rw',q2⟩⟩
theorem vJ (hu:X.A.units+1<cLine)(hi:PE X i ty)(ho:PE X o td):PC X .In i o (qj ty td):=by intro P6 s σ H Q I h;refine aL (hi P6 s σ H _ I h) λiv s1 ⟨y,H1,I1,ry,q1⟩=>aL (ho P6 s1 σ H1 _ I1 q1) λu s2 ⟨x,H2,I2,rx,a,ov,ex,g,q2⟩=>?_;subst ex;obtain rfl:u=RI a:=rx;exact zP hu I2 g ry λs3 I3=>⟨.bl ov.isSome,H2,I3,rfl,q2⟩
theorem oG (hu:X.A.units+1<cLine)(hi:PE X i ty)(ho:PE X o td):PC X .NotIn i o (CM ty td):=by intro P6 s σ H Q I h;refine aL (hi P6 s σ H _ I h) λiv s1 ⟨y,H1,I1,ry,q1⟩=>aL (ho P6 s1 σ H1 _ I1 q1) λu s2 ⟨x,H2,I2,rx,a,ov,ex,g,q2⟩=>?_;subst ex;obtain rfl:u=RI a:=rx;exact HD hu I2 g ry λs3 I3=>⟨.bl (!ov.isSome),H2,I3,rfl,q2⟩
theorem pG (hu:X.A.units+1<cLine)(ho:PE X o td)(hi:PE X i ty)(hv:PE X value tv)(hs:swapsWith value (some (.Subscript o i pos')) pos.line X.env=So false):
  PS X (.Assign [.Subscript o i pos'] value pos) (BP td ty tv):=by intro P6 s σ H D I h;refine wpAny_Assign_Subscript (aL (hv P6 s σ H _ I h) λr s1 ⟨v,H1,I1,rv,q1⟩=>aL (ho P6 s1 σ H1 _ I1 q1) λu s2 ⟨x,H2,I2,rx,q2⟩=>aL (hi P6 s2 σ H2 _ I2 q2) λiv s3 ⟨y,H3,I3,ry,a,H4,ex,g,q3⟩=>?_) hs;subst ex;obtain rfl:u=RI a:=rx;exact Kf hu I3 g ry rv λs4 I4=>⟨σ,H4,I4,q3⟩
end
theorem Dp(h:RW)(hb:Sl<h.objs.size):cS P w H (h.push {cls:=.type "dict",data:=.dict #[]}) h.objs.size (.dK []):=⟨O2 _,O9.mpr (R7 (OH hb)),[],.nil,Heap.DictOf.new h⟩
def B4:TE:=λ_ H Q=>∀ p,H p=none->Q (.ref p) (upd H p (.dK []))
section
theorem pT:PE X (.Dict [] [] pos) B4:=λP6 s σ H Q I h=>wpAny_Dict_empty ⟨.ref s.heap.objs.size,_,I.laid (a:=s.heap.objs.size) (o:=.dK []) (t':=s.toks) (λ_ _ q=>PB _ q) (On _) (Dp s.heap I.big),rfl,h _ (I.hok.fresh (On _))⟩
end
def mn:List (TE×TE)->St->Hp->(List (V×V)->Hp->Prop)->Prop|[],_,H,Q=>Q [] H|(tk,tv)::r,σ,H,Q=>tk σ H λx H1=>tv σ H1 λy H2=>mn r σ H2 λps H3=>Q ((x,y)::ps) H3
abbrev VV:List (V×V)->List (be×be)->Prop:=Paired λp q=>az p.1 q.1/\az p.2 q.2
def uS (X:Cx)(pos:Pos)(keys:List (Option Expr))(values:List Expr)(trs:List (TE×TE)):Prop:=∀(P6:RA) (s:RC) (σ:St) (H:Hp) (Q:List (V×V)->Hp->Prop),am X P6 σ H s->mn trs σ H Q->
  RF (RK X.prog X.w) X.A (evalPairs (pairTrees keys values X.env pos)) (λvs s'=>∃ ps H',am X P6 σ H' s'/\VV ps vs/\Q ps H') X.xe s
theorem oj:uS X pos [] [] []:=λP6 s σ H Q I h=>pairTrees_nil_walk ⟨[],H,I,.nil,h⟩
variable {trs:List (TE×TE)}
theorem iZ{k v:Expr}{ks:List (Option Expr)}{vs:List Expr}{tk:TE}(hk:PE X k tk)(hv:PE X v tv)(hr:uS X pos ks vs trs):
  uS X pos (some k::ks) (v::vs) ((tk,tv)::trs):=λP6 s σ H Q I h=>pairTrees_cons_walk (aL (hk P6 s σ H _ I h) λu s1 ⟨x,H1,I1,rx,q1⟩=>aL (hv P6 s1 σ H1 _ I1 q1) λw2 s2 ⟨y,H2,I2,ry,q2⟩=>aL (hr P6 s2 σ H2 _ I2 q2) λws s3 ⟨ps,H3,I3,rel,q3⟩=>⟨(x,y)::ps,H3,I3,.cons ⟨rx,ry⟩ rel,q3⟩)
def eF (kvs more:List (bj×V)):List (bj×V):=more.foldl (λacc kv=>aZ acc kv.1 kv.2) kvs
theorem KV.merge:∀{more:List (bj×V)}{rs:List (bj×be)}{kvs:List (bj×V)}{vs:List (bj×be)},KV more rs->KV kvs vs->KV (eF kvs more) (merged vs rs):=by intro more rs kvs vs r;unfold KV at r;induction r generalizing kvs vs with
 |nil=>intro q;exact q|@cons p q ps qs h t ih=>
  intro r0;have e:KV (aZ kvs p.1 p.2) (stored vs q.1 q.2):=by have:=r0.put p.1 h.2;rw[<-h.1];exact this
  exact ih e
theorem Fo:∀(more kvs:List (bj×V)),(eF kvs more).length<=kvs.length+more.length|[],kvs=>by show kvs.length<=kvs.length+0;omega|p::r,kvs=>by have h1:=Fo r (aZ kvs p.1 p.2);have h2:=xT kvs p.1 p.2;show(eF (aZ kvs p.1 p.2) r).length<=_;rw[OC];omega
theorem Ex {P:RP}{w:R3}:∀{kvs:List (bj×V)}{ws:List (be×be)},VV (kvs.map λkv=>(kV kv.1,kv.2)) ws->∃ rs,Carries (eh P w) ws rs/\KV kvs rs
 |[],_,r=>by rw[O6]at r;cases r;exact⟨[],O8,.nil⟩|p::kvs,_,r=>by rw[bX]at r;cases r with|@cons a b as bs h t=>obtain⟨rs,c,q⟩:=Ex (P:=P) (w:=w) t;obtain⟨b1,b2⟩:=b;exact⟨(p.1,b2)::rs,⟨jA h.1,rfl,c⟩,.cons ⟨rfl,h.2⟩ q⟩
def BO (trs:List (TE×TE)):TE:=λσ H Q=>∀ p,H p=none->mn trs σ (upd H p (.dK [])) λps H2=>H2 p=some (.dK [])/\∃ kvs:List (bj×V),ps=kvs.map (λkv=>(kV kv.1,kv.2))/\kvs.length<=15/\Q (.ref p) (upd H2 p (.dK (eF [] kvs)))
theorem oi{keys:List (Option Expr)}{values:List Expr}(h:uS X pos keys values trs)(hall:keys.all (·.isSome)=true)(hl:keys.length=values.length)(h0:keys≠[])(h15:keys.length<=15):PE X (.Dict keys values pos) (BO trs):=by
 intro P6 s σ H Q I q;have hn:=I.hok.fresh (On s.heap.objs.size);have I1:=I.laid (a:=s.heap.objs.size) (o:=.dK []) (h':=s.heap.push {cls:=.type "dict",data:=.dict #[]}) (t':=s.toks) (λ_ _ q=>PB _ q) (On _) (Dp s.heap I.big);refine wpAny_Dict_walk (knd:=eh X.prog X.w) hall hl h0 h15 (aL (h P6 _ σ _ _ I1 (q _ hn)) λws s2 ⟨ps,H2,I2,rel,e,kvs,ep,lk,q2⟩=>?_);subst ep;obtain⟨rs,c,rk⟩:=Ex (P:=X.prog) (w:=X.w) rel;obtain⟨z,hd,vs0,r0,dd⟩:=l6 I2.hok e;cases r0;refine⟨rs,c,dd,λh' dd' hs=>⟨.ref s.heap.objs.size,_,?_,rfl,q2⟩⟩;have hz:(eF [] kvs).length<=sizeLine:=by have h1:=Fo kvs [];rw[List.length_nil]at h1;rw[sizeLine_eq];omega
 have he:∃ q,h'.get? s.heap.objs.size=some q:=let ⟨q,_,_,hq,_⟩:=dd';⟨q,hq⟩;exact pH I2 (by rw[e];exact O8) hs he (tj hz hd (rk.merge .nil) dd')
structure M2 (X:Cx)(o:Expr)(m:Str)(apos:Pos)(e f:Expr)(cpos:Pos):Prop where
 base:attributeBase o m X.env (RS o X.env)=RS o X.env
 few:((RZ cpos (RE [e,f] X.env)).all (λx=>!x.1)&&(backToKw cpos (Sy [] X.env)).all (λx=>x.1.isSome)
  &&decide (([e,f]:List Expr).length+([]:List Keyword).length+(if([]:List Keyword).isEmpty then 0 else 1)<30))=true
 line:(apos.endLine==cpos.line)=true
 trees:RZ cpos (RE [e,f] X.env)=[(false,RS e X.env),(false,RS f X.env)]
def sJ (H:Hp)(a:Q2):Prop:=(∃ kvs,Rd H a (.dK kvs))\/∃ kvs,Rd H a (.dT kvs)
theorem B3(I:am X P6 σ H s)(d:sJ H a):
  s.TypeIs (.ref a) "dict"/\(∀ b,RI a=.ref b->∃ ob,s.heap.get? b=some ob/\ob.dict=none)/\(a==Sl)=false:=by
 rcases d with⟨kvs,e⟩|⟨kvs,e⟩
 ·obtain⟨_,hd,vs,_,dd⟩:=l7 I.hok e;refine⟨dd.typeIs,λb q=>?_,hd⟩;cases q;obtain⟨ob,_,_,h1,h2,_⟩:=dd;exact⟨ob,h1,h2.2.1⟩
 ·obtain⟨_,hd,xs,_,dd⟩:=lZ I.hok e;refine⟨dd.typeIs,λb q=>?_,hd⟩;cases q;obtain⟨ob,_,_,h1,h2,_⟩:=dd;exact⟨ob,h1,h2.2.1⟩
section
variable {d:V}
theorem Gh(hu:A.units+1<cLine)(I:am X P6 σ H s)(g:bh H a y o)(ry:az y u)(rd:az d r)(h:∀ w' s',am X P6 σ H s'->az (o.getD d) w'->Q w' s'):
  RF (RK X.prog X.w) A (call (.builtin "dict.get") [.ref a,u,r]) Q E s:=by
 rcases g with⟨kvs,k,e,ey,l⟩|⟨kvs,k,b,e,ey,eb,l⟩
 ·subst ey;obtain⟨z,hd,vs,rel,dd⟩:=l7 I.hok e;refine call_meetsIn PySem.F.slot_dict_get dd.typeIs PySem.F.entry_dict_get (PySem.F.args_dict_get_3 _ _ _) (meets_dict_get_default (eh X.prog X.w) a (jA ry) hd r) ⟨_,dd.mapOf,h _ _ (I.tok _) ?_⟩;rw[l];exact(rel.val k).getD rd
 ·subst ey;cases(show u=RI b from ry);obtain⟨z,hd,xs,rel,dd⟩:=lZ I.hok e;refine call_meetsIn PySem.F.slot_dict_get dd.typeIs PySem.F.entry_dict_get (PySem.F.args_dict_get_3 _ _ _) (meetsH_dict_get_default (tupleKind (eh X.prog X.w)) a b hd r) ⟨P1 hu,k,xs,nR I.hok eb,dd,h _ _ (I.tok _) ?_⟩;rw[l];exact(rel.val k).getD rd
end
def B2 (td ty tx:TE):TE:=λσ H Q=>td σ H λx H1=>∃ a,x=.ref a/\sJ H1 a/\ty σ H1 λy H2=>tx σ H2 λz H3=>∃ o,bh H3 a y o/\Q (o.getD z) H3
def B1 (td ty tx:TE):TE:=λσ H Q=>td σ H λx H1=>∃ a,x=.ref a/\sJ H1 a/\ty σ H1 λy H2=>tx σ H2 λz H3=>∃ kvs k,H3 a=some (.dK kvs)/\y=kV k/\
 (∀ v,aG kvs k=some v->Q v (upd H3 a (.dK (fw kvs k))))/\(aG kvs k=none->Q z H3)
section
variable {o f:Expr}{tx:TE}
theorem JE (hu:X.A.units+1<cLine)(ho:PE X o td)(he:PE X e ty)(hf:PE X f tx)(m:M2 X o "get" apos e f cpos):PE X (.Call (.Attribute o "get" apos) [e,f] [] cpos) (B2 td ty tx):=by
 intro P6 s σ H Q I h;refine wpAny_Call_method m.base m.few m.line PySem.F.plainAttrs_dict PySem.F.slot_dict_get PySem.F.type_dict_get (aL (ho P6 s σ H _ I h) λu s1 ⟨x,H1,I1,rx,a,ex,d,q1⟩=>?_);subst ex;obtain rfl:u=RI a:=rx;obtain⟨t1,t2,_⟩:=B3 I1 d;nomatch t1,t2;rw[m.trees];refine Calls.callWith_builtin rfl (Calls.evalArgs_plain (Calls.spliced_cons (aL (he P6 s1 σ H1 _ I1 q1) λiv s2 ⟨y,H2,I2,ry,q2⟩=>Calls.spliced_cons (aL (hf P6 s2 σ H2 _ I2 q2) λfv s3 ⟨z,H3,I3,rz,ov,g,q3⟩=>Calls.spliced_nil ?_))))
 exact Gh hu I3 g ry rz λw' s4 I4 rw'=>⟨_,H3,I4,rw',q3⟩
theorem JD (ho:PE X o td)(he:PE X e ty)(hf:PE X f tx)(m:M2 X o "pop" apos e f cpos):PE X (.Call (.Attribute o "pop" apos) [e,f] [] cpos) (B1 td ty tx):=by
 intro P6 s σ H Q I h;refine wpAny_Call_method m.base m.few m.line PySem.F.plainAttrs_dict PySem.F.slot_dict_pop PySem.F.type_dict_pop (aL (ho P6 s σ H _ I h) λu s1 ⟨x,H1,I1,rx,a,ex,d,q1⟩=>?_);subst ex;obtain rfl:u=RI a:=rx;obtain⟨t1,t2,_⟩:=B3 I1 d;nomatch t1,t2;rw[m.trees];refine Calls.callWith_builtin rfl (Calls.evalArgs_plain (Calls.spliced_cons (aL (he P6 s1 σ H1 _ I1 q1) λiv s2 ⟨y,H2,I2,ry,q2⟩=>Calls.spliced_cons (aL (hf P6 s2 σ H2 _ I2 q2) λfv s3 ⟨z,H3,I3,rz,kvs,k,ea,ey,q3,q4⟩=>Calls.spliced_nil ?_))))
 subst ey;cases l:aG kvs k with
 |some v=>exact rW I3 ea ry l (.inr ⟨fv,rfl⟩) λw' s4 I4 rw'=>⟨v,_,I4,rw',q3 v l⟩|none=>exact Hy I3 ea ry l λs4 I4=>⟨z,H3,I4,rz,q4 l⟩
end
section
end
section
end
end L2
namespace Att
open PySem PySem.W PySem.Calls PyProof.Rows
variable {P:Params}{h:RW}
theorem Nw:∀(ns:Rv) (vs:List be),WellAll P h vs (ns.map WData.int)->IntsAre vs ns:=by intro ns;induction ns with
 |nil=>intro vs w;rw[O6]at w;cases w;exact .nil|cons n ns ih=>intro vs w;rw[bX]at w;cases w with|cons a b=>cases a;exact .cons _ _ (ih _ b)
variable {l:OpenLaw}{n:Nat}
theorem Ke(hn:l.most=some n){args:List WData}{vals:List be}(hpre:l.row.toRowW.claim.pre args=true)(hwl:WellAll P h vals args):
  ∃ a vs ns,vals=[RI a]/\args=[WData.list (ns.map WData.int)]/\h.get? a=some {cls:=.type "list",data:=.seq vs.toArray}/\IntsAre vs ns/\ns.length<=n:=by
 have hsh:WShape.hasAll [] args [.list .int]=true:=(pre_splitW hpre).1;have hc:l.pre.holds [] {args:=args}=true:=(pre_splitW hpre).2;obtain⟨d,r,rfl,h1,h2⟩:=hasAllW_cons hsh;obtain rfl:=hasAllW_nil h2;obtain⟨xs,rfl,h3⟩:=hasW_list h1;obtain⟨ns,rfl⟩:=items_int h3;have hlen:ns.length<=n:=by
  unfold OpenLaw.pre at hc;have h4:(WTm.not (.lt (.lit (.int (n:Int))) (.len (.arg 0)))).holds [] {args:=[.list (ns.map .int)]}=true:=by have h4:=(holds_andW hc).1;rw[hn]at h4;exact h4
  have h5:=condW_of h4 (w_not (w_lt w_lit (w_len_list (w_arg rfl))));rw[aT]at h5;refine Nat.le_of_not_lt λq=>?_;have q':(n:Int)<((ns.length:Nat):Int):=by omega
  first|(rw[Og q']at h5;exact OE h5 (by decide))|(simp at h5;omega)
 cases hwl with|cons w1 w2=>cases w2;cases w1 with|list ho hall=>exact⟨_,_,ns,rfl,rfl,ho,Nw ns _ hall,hlen⟩
theorem Kd (l:OpenLaw)(args:List WData):l.row.toRowW.claim.post args (.bool true) args=true:=postW_of (r:=l.row.toRowW) (X:=(true==true))
  (show WShape.has [] (.bool true) .bool=true by first|rfl|decide|simp[WShape.has,WShape.arms,WShape.armsAll])
  (show(WTm.eq .res (.lit (.bool true))).value [] {args:=args,res:=some (.bool true),after:=args}=some (.bool (true==true))from w_eq_bool (w_res rfl) w_lit) rfl
theorem attach_call{q:RP}{loose:List Str}{XP:(Str->Option be)->RW->Prop}{YP:R3->RW->Prop}{d:DefRec}(hn:l.most=some n)(hdf:d.params.defaults=[])(call:∀(w:R3) (s₀ s₁:RC) (mg mb:Str->Option be) (fa:Q2) (o:Obj) (pm cd doc:be) (a:Q2) (vs:List be) (ns:Rv),
   Ground q loose [] XP w s₀ mg mb s₁.heap->YP w s₁.heap->
   s₁.heap.get? fa=some o->o.data=.func (docDef d.name d.params d.body d.scope pm cd doc)->s₁.heap.CodeRec cd d.name->mg d.name=some (.ref fa)->
   s₁.heap.get? a=some {cls:=.type "list",data:=.seq vs.toArray}->IntsAre vs ns->ns.length<=n->s₁.gens=#[]->
   codeAny (RK l.prog w) callerA (.call (.ref fa) ⟨[.ref a],[]⟩) (λr s'=>r=.ok (.ret (.bool true))/\OldK s₁.heap s'.heap/\s'.os=s₁.os/\AllBare s'.gens) s₁):
  WalkO q loose XP YP l.row.toRowW d [] (λf vs=>PySem.call f vs):=by intro w s₀ s₁ mg mb G Y fa o pm cd doc dV kV ho hd hcd hD hmg hg args vals as hpre hlay hrd hwl hlo;obtain rfl:dV=.none:=Dflts.none hD hdf;obtain rfl:kV=.none:=Dflts.noKw hD;obtain⟨a,vs,ns,rfl,rfl,hobj,hints,hlen⟩:=Ke hn hpre hwl;refine enter_call (P3 (call w s₀ s₁ mg mb fa o pm cd doc a vs ns G Y ho (fd_plain hd) hcd hmg hobj hints hlen hg) λr s' hq=>?_);obtain⟨rfl,h2,h3,h4⟩:=hq;exact⟨.inl ⟨.bool true,.bool true,[],rfl,λ_=>rfl,.bool true,Kd l _,λ_=>⟨List.Pairwise.nil,λ_ hm=>(nomatch hm)⟩⟩,h2,h3,h4⟩
section
variable {prog:RP}{w:R3}{A:Sn}{E:be->RC->Prop}{s:RC}{K:Frag}
end
end Att
namespace L2
open PySem PySem.Spec PyProof.Rows
theorem xy:∀{vs:List be}{ns:Rv},IntsAre vs ns->ay (ns.map V.int) vs|_,_,.nil=>.nil|_,_,.cons n t h=>.cons ⟨t,rfl⟩ (xy h)
def m7 (H:Hp):Prop:=∀ b,H b=none\/∃ o xs,H b=some (.frz o (.lst xs))
variable {P:RP}{w:R3}{K:Fg}{mg:Str->Option be}{CX:ke}{a:Q2}{fd:FuncData}{x:Str}{sp:Sp}{ns:Rv}
theorem JC{mb:Str->Option be}{k:Nat}{fa:Q2}{s₁:RC}{vs:List be}(KX:K.In s₁.heap)(hns:s₁.heap.Ns RJ mg)(hb:s₁.heap.Ns builtinsNs mb)(hbb:∀ x:Str,x≠"__name__" ->mb x=RQ x)(hlim:s₁.heap.NoLimit)(hg:s₁.gens=#[])(ha:s₁.heap.get? a=some {cls:=.type "list",data:=.seq vs.toArray})(hi:IntsAre vs ns)(hl:ns.length<=sizeLine)(hr:aS k callerA)(F:∀ base:RW,K.In base->base.Ns RJ mg->ce P w K mg base CX k fa fd [x] sp)(hbind:∀(s:RC) (u:be),BindsTo s fd ⟨[u],[]⟩ [(x,u)])(hsp:∀ H:Hp,m7 H->ao K H a (ns.map V.int)->sp [.ref a] H (λv _=>v=.bl true) λ_ _ _=>False)(hCX:∀ H e s',CX [] H s₁ (λ_ _ _=>False) e s'->False):
  codeAny (RK P w) callerA (.call (.ref fa) ⟨[.ref a],[]⟩) (λr s'=>r=.ok (.ret (.bool true))/\OldK s₁.heap s'.heap/\s'.os=s₁.os/\AllBare s'.gens) s₁:=by
 have rv:=xy hi;have lenV:=hi.length;have core:∀ H:Hp,m7 H->ao K H a (ns.map V.int)->dk P w H s₁.heap->(∀ b,H b≠none->b=a)->(H a≠none->K.lookup a=none)->
   codeAny (RK P w) callerA (.call (.ref fa) ⟨[.ref a],[]⟩) (λr s'=>r=.ok (.ret (.bool true))/\OldK s₁.heap s'.heap/\s'.os=s₁.os/\AllBare s'.gens) s₁:=by
  intro H hO hS hok hA hK;have base_of:∀{b:Q2}{o:Obj},s₁.heap.get? b=some o->H b=none->(fc s₁.heap H).get? b=some o:=λe n=>JO e n;have noA:∀{b:Q2}{o:Obj}{es:Array DictEntry}{ep:Nat},s₁.heap.get? b=some o->o.data=.dict es ep->H b=none:=λ{b o es ep} e d=>by cases q:H b with
   |none=>rfl|some u=>
    have e':b=a:=hA b (by rw[q];simp);subst e';rw[ha]at e;cases e;have d':Data.seq vs.toArray _=Data.dict es ep:=d;cases d'
  have nsK:∀{b:Q2}{m:Str->Option be},s₁.heap.Ns b m->(fc s₁.heap H).Ns b m:=λ{b m} ⟨o,es,ep,e,d,r⟩=>⟨o,es,ep,base_of e (noA e d),d,r⟩;have hKb:K.In (fc s₁.heap H):=λb o e=>base_of (KX b o e) (by cases q:H b with
   |none=>rfl|some u=>
    have e':b=a:=hA b (by rw[q];simp);subst e';rw[hK (by rw[q];simp)]at e;cases e)
  have hM:Mod K mg (fc s₁.heap H):=⟨hKb,nsK hns,⟨mb,nsK hb,hbb⟩,let ⟨mc,h1,h2⟩:=hlim;⟨mc,nsK h1,h2⟩⟩;have e0:gU P w K mg (fc s₁.heap H) callerA [] s₁ H:=⟨rfl,hM,λb o e=>HU e,Nat.le_of_eq (K4 _ _),trivial,λb hb=>OE (show b∈([]:Rz)from hb) (by simp),hok,.of_eq hg⟩;refine P3 ((F _ hKb (nsK hns)).run callerA [] s₁ H ⟨[.ref a],[]⟩ [.ref a] [.ref a] _ _ hr e0 (hbind s₁ (.ref a)) (.cons rfl .nil) (hsp H hO hS)) λr s' h=>?_;cases r with
  |error e=>exact(hCX H e s' h).elim|ok fl=>cases fl with
   |next=>exact OR h|brk=>exact OR h|cont=>exact OR h|ret u=>
    obtain⟨v,H',os,bare,un,hok',r',q⟩:=h;have q':v=.bl true:=q;subst q';obtain rfl:u=Value.bool true:=r';refine⟨rfl,OldK.of_keep λb o e=>?_,os,bare⟩;cases q:H b with
    |none=>exact un.keep b o e q (by intro z;exact OE (show b∈([]:Rz)from z) (by simp)) (by simp)|some u=>
     rcases hO b with z|⟨ob,xs,z⟩
     ·rw[q]at z;cases z
     ·have z2:=un.frzs b ob _ z;obtain⟨e1,_⟩:=hok b _ z;obtain⟨e2,_⟩:=hok' b _ z2;rw[e]at e1;cases e1;exact e2
 cases hk:K.lookup a with
 |some o=>have e:=KX a o hk;rw[ha]at e;cases e;refine core (λ_=>none) (λ_=>.inl rfl) (.inr ⟨_,vs.toArray,_,hk,rfl,rfl,rfl,by rw[bL,lenV];exact hl,by simpa using rv⟩) (λb u z=>by have z':(none:Option HO)=some u:=z;cases z') (λb z=>OE rfl z) λz=>OE rfl z|none=>
  refine core (λb=>if b=a then some (.frz {cls:=.type "list",data:=.seq vs.toArray} (.lst (ns.map V.int)))else none) (λb=>?_) (.inl (.inr ⟨{cls:=.type "list",data:=.seq vs.toArray},Ol rfl⟩)) (λb u z=>?_) (λb z=>?_) λ_=>hk
  ·by_cases hb:b=a
   ·exact .inr ⟨_,_,Ol hb⟩
   ·exact .inl (Oh hb)
  ·by_cases hb:b=a
   ·have z':=(Ol hb).symm.trans z;cases z';subst hb;exact⟨ha,by rw[aT];exact hl,vs,_,rv,ha⟩
   ·have z':=(Oh hb).symm.trans z;cases z'
  ·by_cases hb:b=a
   ·exact hb
   ·exact OE (Oh hb) z
abbrev bH:ke:=λ_ _ _ _ _ _=>False
abbrev E0:XK:=λ_ _ _=>False
variable {X:Cx}
theorem bZ:im bH X E0:=λ_ _ _ _ _ _ _ h=>h.elim
structure aN (K:Fg)(x qual:Str)(st:RM)(f:Q2)(fd:FuncData):Prop where
 ex:∃(oc:be) (od:Option Q2) (kV doc pm:be) (an:Option Q2) (cdv ct:be) (osl:Array (Option be)),
  fd=Sr x qual (jV st) (gE st) (aI st) .none kV doc pm an cdv ct/\K.lookup f=some ⟨oc,od,.func fd,osl⟩/\PySem.W.codeIn K cdv qual=true
 kp:RU K (.ref f)=true
variable {qual:Str}{st:RM}{N:List Str}{base:RW}
section
theorem aN.ok{f:Q2}{ps:List Str}{k:Nat}(F:aN K x qual st f fd)(S:aQ N ps (aI st))(len:∀ vs H Q E,sp vs H Q E->vs.length=ps.length)(hbody:∀(cdv:be) (A:Sn) (outer:List Env) (s:RC) (H:Hp) (vs:Ry) (Q:VK) (E:XK),aS k (A.deeper (envOfC qual (aI st) s.heap.objs.size f cdv))->sp vs H Q E->
   ∃ t,fh (bT bH P w K mg base N qual (aI st) f cdv A outer s H E).nox (gE st) t/\t {nx:=λ_ H'=>Q .non H',rt:=Q} (start N vs) H):ce P w K mg base bH (k+1) f fd ps sp:=by obtain⟨oc,od,kV,doc,pm,an,cdv,ct,osl,rfl,lk,hcd⟩:=F.ex;refine BJ lk hcd S len λA outer s H vs Q E hr hsp=>?_;obtain⟨t,h,q⟩:=hbody cdv A outer s H vs Q E hr hsp;exact⟨t,h.nox,q⟩
theorem aN.binds{f:Q2}{ps:List Str}(F:aN K x qual st f fd)(h:∀(kV doc pm:be) (an:Option Q2) (cdv ct:be) (us:List be),us.length=ps.length->bindArgs (Sr x qual (jV st) (gE st) (aI st) .none kV doc pm an cdv ct) ⟨us,[]⟩=So (ps.zip us)):f_ K fd ps []:=by obtain⟨oc,od,kV,doc,pm,an,cdv,ct,osl,rfl,lk,hcd⟩:=F.ex;exact .all (h kV doc pm an cdv ct)
theorem B0{f:Q2}{oc:be}{od an:Option Q2}{osl:Array (Option be)}{kV doc pm cdv ct:be}(l:K.lookup f=some ⟨oc,od,.func (Sr x qual (jV st) (gE st) (aI st) .none kV doc pm an cdv ct),osl⟩)(c:PySem.W.codeIn K cdv qual=true)(k:RU K (.ref f)=true):aN K x qual st f (Sr x qual (jV st) (gE st) (aI st) .none kV doc pm an cdv ct):=⟨⟨oc,od,kV,doc,pm,an,cdv,ct,osl,rfl,l,c⟩,k⟩
end
variable {n:Nat}
theorem j4(h:n<=1000):n<sizeLine:=Pt h (by decide)
variable {pos:Pos}
section
theorem pv(i:Nat)(hN:⇑(X.N[i]?=some x))(hv:autoParam (oQ X.env.scope x) zq)(hd:↥((x==("__debug__":Str))=false))(hcd:↥((x==("__classdict__":Str))=false)):PE X (.Name x pos) (ja i):=Hu hN hv hd hcd
end
variable {B A:Prop}
theorem jm(h:B):if false=true then A else B:=by rw[Oh Ox];exact h
theorem jj(h:A):if true=true then A else B:=by rw[Ol rfl];exact h
theorem bC{c:Prop}[Decidable c](h1:c->A)(h2:¬ c->B):if c then A else B:=by
 by_cases h:c
 ·rw[Ol h];exact h1 h
 ·rw[Oh h];exact h2 h
def ae (H H':Hp):Prop:=∀ b o,H b=some o->H' b=some o
theorem ae.refl (H:Hp):ae H H:=λ_ _ h=>h
variable {H H1 H2:Hp}
theorem ae.trans(a:ae H H1)(b:ae H1 H2):ae H H2:=λc o h=>b c o (a c o h)
variable {H':Hp}
theorem ae.free(e:ae H H'){l:Q2}(h:H' l=Option.none):H l=Option.none:=by cases q:H l with
 |none=>rfl|some o=>rw[e l o q]at h;cases h
variable {xs:Ry}
theorem ae.seq(e:ae H H')(h:ao K H a xs):ao K H' a xs:=by
 rcases h with(h|⟨o,h⟩)|h
 ·exact .inl (.inl (e _ _ h))
 ·exact .inl (.inr ⟨o,e _ _ h⟩)
 ·exact .inr h
variable {v:V}
section
variable {κ:Type} [DecidableEq κ]
theorem JB {kvs:List (κ×V)}{k:κ}(h:aG kvs k=none):¬ k∈kvs.map (·.1):=by intro m;obtain⟨p,hp,e⟩:=bU.mp m;have q:(kvs.any λkv=>decide (kv.1=k))=true:=List.any_eq_true.mpr ⟨p,hp,Og e⟩;rw[lN,h]at q;exact OE q (by simp)
theorem CL{kvs:List (κ×V)}{k:κ}(h:aG kvs k=some v):k∈kvs.map (·.1):=by
 have q:(kvs.any λkv=>decide (kv.1=k))=true:=by rw[lN,h];all_goals rfl
 obtain⟨p,hp,e⟩:=List.any_eq_true.mp q;exact bU.mpr ⟨p,hp,Ot e⟩
theorem v9:∀{l:List κ}{k:κ},l.Nodup->¬ k∈l->(l++[k]).Nodup
 |[],k,_,_=>by simp|a::r,k,h,hk=>by
  obtain⟨h1,h2⟩:=OM.mp h;show(a::(r++[k])).Nodup;refine OM.mpr ⟨λm=>?_,v9 h2 λm=>hk (Oe.mpr (Or.inr m))⟩;rcases bW.mp m with q|q
  ·exact h1 q
  ·exact hk (Oe.mpr (Or.inl (bn.mp q).symm))
theorem Kc {p:κ×V}{r:List (κ×V)}{k:κ}(e:p.1=k):fw (p::r) k=fw r k:=by unfold fw;rw[Pc,Oh (by simp[e])]
theorem Kb {p:κ×V}{r:List (κ×V)}{k:κ}(e:¬ p.1=k):fw (p::r) k=p::fw r k:=by unfold fw;rw[Pc,Ol (by simp[e])]
end
noncomputable def eQ:List Bool->St->St|[],_=>[]|_::ms,[]=>none::eQ ms []|b::ms,v::σ=>(if b=true then none else v)::eQ ms σ
theorem uA:∀(ms:List Bool) (σ:St),(eQ ms σ).length=ms.length|[],_=>rfl|_::ms,[]=>by simp[eQ,uA ms []]|_::ms,_::σ=>by simp[eQ,uA ms σ]
theorem xx:∀{ms:List Bool}{σ:St}{i:Nat}{v:V},(eQ ms σ)[i]?=some (some v)->ms[i]?=some false/\σ[i]?=some (some v)
 |[],_,_,_,h=>by simp[eQ]at h|b::ms,[],0,v,h=>by simp[eQ]at h|b::ms,[],i+1,v,h=>by have q:=xx (ms:=ms) (σ:=[]) (i:=i) (v:=v) (by simpa[eQ]using h);simp at q|b::ms,u::σ,0,v,h=>by cases b with
  |true=>simp[eQ]at h|false=>simp[eQ]at h;simp[h]
 |b::ms,u::σ,i+1,v,h=>by have q:=xx (ms:=ms) (σ:=σ) (i:=i) (v:=v) (by simpa[eQ]using h);simpa using q
noncomputable def d_ (env:Env):List (Str×NameKind)->List (Str×Q2)->List (Str×Q2)|[],cs=>cs|(n,k)::r,cs=>d_ env r (if k=.free then(match env.cells.lookup n with|some c=>(n,c)::cs|none=>cs)else cs)
variable {env:Env}
theorem Ec:∀(names:List (Str×NameKind)) (cs:List (Str×Q2)),(∀ x c,cs.lookup x=some c->env.cells.lookup x=some c)->
  ∀ x c,(d_ env names cs).lookup x=some c->env.cells.lookup x=some c
 |[],cs,h,x,c,e=>h x c e|(n,k)::r,cs,h,x,c,e=>by
  refine Ec r _ (λy d q=>?_) x c e;by_cases hk:k=.free
  ·rw[Ol hk]at q;cases hn:env.cells.lookup n with
   |none=>rw[hn]at q;exact h y d q|some a=>rw[hn]at q;simp only[Pe]at q;cases hy:y==n with
    |true=>
     rw[hy]at q;have:y=n:=by simpa using hy
     subst this;rw[hn];exact q|false=>rw[hy]at q;exact h y d q
  ·rw[Oh hk]at q;exact h y d q
theorem xw:∀(names:List (Str×NameKind)) (cs:List (Str×Q2)) (x:Str),(∀ p∈names,p.2=.free->∃ c,env.cells.lookup p.1=some c)->
  ((x,Sf)∈names\/∃ c,cs.lookup x=some c)->∃ c,(d_ env names cs).lookup x=some c
 |[],cs,x,_,h=>by
  rcases h with h|h
  ·cases h
  ·exact h|(n,k)::r,cs,x,hf,h=>by
  refine xw r _ x (λp hp=>hf p (Oo _ hp)) ?_;by_cases hk:k=.free
  ·obtain⟨c,hc⟩:=hf (n,k) Oi hk;simp only at hc;rw[Ol hk,hc];rcases h with h|⟨d,hd⟩
   ·rcases Oe.mp h with e|e
    ·cases e;exact .inr ⟨c,by simp⟩
    ·exact .inl e
   ·refine .inr ?_;simp only[Pe];cases hy:x==n with
    |true=>exact⟨c,rfl⟩|false=>exact⟨d,hd⟩
  ·rw[Oh hk];rcases h with h|h
   ·rcases Oe.mp h with e|e
    ·cases e;exact OE rfl hk
    ·exact .inl e
   ·exact .inr h
theorem xv{f:Str×NameKind->List (Str×Q2)->Sem (ForInStep (List (Str×Q2)))}(h1:∀ n c cs,env.cells.lookup n=some c->f (n,.free) cs=So (.yield ((n,c)::cs)))(h2:∀ n k cs,k≠Sf->f (n,k) cs=So (.yield cs)):
  ∀(names:List (Str×NameKind)) (cs:List (Str×Q2)),(∀ p∈names,p.2=.free->∃ c,env.cells.lookup p.1=some c)->forIn names cs f=So (d_ env names cs)
 |[],cs,_=>rfl|(n,k)::r,cs,hf=>by
  rw[List.forIn_cons];by_cases hk:k=.free
  ·subst hk;obtain⟨c,hc⟩:=hf (n,.free) Oi rfl;simp only at hc;rw[h1 n c cs hc];show forIn r ((n,c)::cs) f=_;rw[xv h1 h2 r _ λp hp=>hf p (Oo _ hp)];simp[d_,hc]
  ·rw[h2 n k cs hk];show forIn r cs f=_;rw[xv h1 h2 r _ λp hp=>hf p (Oo _ hp)];simp[d_,hk]
variable {scope:Scope}
theorem CK(hf:∀ p∈scope.names,p.2=.free->∃ c,env.cells.lookup p.1=some c):closureFor scope env=So (d_ env scope.names []):=by
 simp only[closureFor];rw[xv (env:=env) (λn c cs hc=>?_) (λn k cs hk=>?_) scope.names [] hf]
 ·rfl
 ·simp[cellOf,hc]
 ·have:(k==Sf)=false:=by simpa using hk
  simp[this]
theorem EV (env:Env)(x:Str):∀(names:List (Str×NameKind)),(names.map λ(p:Str×NameKind)=>match p with|(n,k)=>if(k==Sf&&env.scope.kind==.function&&env.kindOf n==some .cell)=true then(n,NameKind.cell)else(n,k)).lookup x=
  (names.lookup x).map λk=>if(k==Sf&&env.scope.kind==.function&&env.kindOf x==some .cell)=true then NameKind.cell else k
 |[]=>rfl|(n,k)::r=>by
  have ih:=EV env x r;rw[bX];by_cases hc:(k==Sf&&env.scope.kind==.function&&env.kindOf n==some .cell)=true
  ·simp only[Ol hc,Pe];cases hx:x==n with
   |true=>
    have:x=n:=by simpa using hx
    subst this;exact(congrArg some (Ol hc)).symm|false=>exact ih
  ·simp only[Oh hc,Pe];cases hx:x==n with
   |true=>
    have:x=n:=by simpa using hx
    subst this;exact(congrArg some (Oh hc)).symm|false=>exact ih
theorem Fd (scope:Scope)(env:Env)(x:Str):(relabel scope env).names.lookup x=
  (scope.names.lookup x).map λk=>if(k==Sf&&env.scope.kind==.function&&env.kindOf x==some .cell)=true then NameKind.cell else k:=EV env x scope.names
structure bB (sc0:Scope)(N:List Str)(scope:Scope)(N':List Str)(ms:List Bool):Prop where
 kind:scope.kind=.function
 nocell:∀ y∈scope.names,y.2≠.cell
 nm:∀ y∈scope.names,y.2=.local->scope.names.lookup y.1=some .local
 fr:∀ y∈scope.names,y.2=.free->sc0.names.lookup y.1=some .cell\/sc0.names.lookup y.1=some .free
 len:ms.length=N'.length
 own:∀(i:Nat) (x:Str),N'[i]?=some x->ms[i]?=some false->scope.names.lookup x≠some .local
 out:∀(i:Nat) (x:Str),N'[i]?=some x->ms[i]?=some false->scope.names.lookup x=some .free->N[i]?=some x
def lC (N:List Str)(scope:Scope):List Str->List Bool->List (Option Str)->Bool|x::N',false::ms,o=>(scope.names.lookup x !=some .local)&&(scope.names.lookup x !=some .free ||o.head?==some (some x))&&lC N scope N' ms o.tail|_::N',true::ms,o=>lC N scope N' ms o.tail|_,_,_=>true
theorem uh:∀(N':List Str) (ms:List Bool) (o:List (Option Str)),lC N scope N' ms o=true->∀(i:Nat) (x:Str),N'[i]?=some x->ms[i]?=some false->
  scope.names.lookup x≠some .local/\(scope.names.lookup x=some .free->o[i]?=some (some x))
 |[],_,_,_,i,x,e,_=>by simp at e|_::_,[],_,_,i,x,_,e=>by simp at e|y::N',false::ms,o,h,i,x,e1,e2=>by simp only[lC,Of,bne_iff_ne,ne_eq,Bool.or_eq_true,Pd]at h;cases i with
  |zero=>
   simp at e1;subst e1;refine⟨h.1.1,λq=>?_⟩;rcases h.1.2 with z|z
   ·exact OE q z
   ·cases o with
    |nil=>simp at z|cons a r=>simpa using z
  |succ i=>have q:=uh N' ms o.tail h.2 i x (by simpa using e1) (by simpa using e2);refine⟨q.1,λz=>?_⟩;have:=q.2 z;cases o with
   |nil=>simp at this|cons a r=>simpa using this
 |y::N',true::ms,o,h,i,x,e1,e2=>by simp only[lC]at h;cases i with
  |zero=>simp at e2|succ i=>have q:=uh N' ms o.tail h i x (by simpa using e1) (by simpa using e2);refine⟨q.1,λz=>?_⟩;have:=q.2 z;cases o with
   |nil=>simp at this|cons a r=>simpa using this
variable {sc0:Scope}{N':List Str}{ms:List Bool}
theorem bB.mk'(kind:scope.kind=.function)(nocell:∀ y∈scope.names,y.2≠.cell)(nm:∀ y∈scope.names,y.2=.local->scope.names.lookup y.1=some .local)(fr:∀ y∈scope.names,y.2=.free->sc0.names.lookup y.1=some .cell\/sc0.names.lookup y.1=some .free)(len:ms.length=N'.length)(sl:lC N scope N' ms (N.map some)=true):bB sc0 N scope N' ms:=⟨kind,nocell,nm,fr,len,λi x e1 e2=>(uh N' ms _ sl i x e1 e2).1,λi x e1 e2 e3=>by
  have q:=(uh N' ms _ sl i x e1 e2).2 e3;rw[aM]at q;cases h:N[i]? with
  |none=>rw[h]at q;cases q|some a=>rw[h]at q;simpa using q⟩
noncomputable def dN (X:Cx) (N':List Str) (scope:Scope) (cl:List (Str×Q2)) (C:Q2) (fp:Rz) (s3:RC) (H3:Hp):Cx where
 prog:=X.prog;w:=X.w;K:=X.K;mg:=X.mg;base:=X.base;A:=X.A;N:=N';s₀:=s3;H₀:=H3;env:=compEnvC scope cl C X.env;outer:=X.stack;stack:=X.stack;ex:=fp;fn:=λ_=>false;calm:=X.calm;pn:=[];xe:=λ_ _=>False
variable {s3 s':RC}{h':RW}{C:Q2}{pins' P6:RA}{σ' σ:St}{fp:Rz}
section
theorem bB.cells (ok:bB X.env.scope X.N scope N' ms)(k:X.Ok):∀ p∈scope.names,p.2=.free->∃ c,X.env.cells.lookup p.1=some c:=λp hp e=>k.has p.1 (ok.fr p hp e)
theorem nQ{c:Q2}(e:(d_ X.env scope.names []).lookup x=some c):X.env.cells.lookup x=some c:=Ec _ [] (λ_ _ q=>by cases q) x c e
theorem bB.Qh(ok:bB X.env.scope X.N scope N' ms)(h:(relabel scope X.env).names.lookup x=some .cell\/(relabel scope X.env).names.lookup x=some .free):scope.names.lookup x=some .free:=by rw[Fd]at h;cases e:scope.names.lookup x with
 |none=>rw[e]at h;rcases h with h|h<;>cases h|some k=>
  rw[e]at h;simp only[Sg,Option.some.injEq]at h;by_cases hk:k=.free
  ·rw[hk]
  ·have hb:(k==Sf)=false:=by simpa using hk
   simp only[hb,Pk,Bool.false_eq_true,if_false]at h;rcases h with h|h
   ·exact OE h (ok.nocell _ (PN e))
   ·exact OE h hk
theorem bB.locals(ok:bB X.env.scope X.N scope N' ms)(h:(relabel scope X.env).names.lookup x=some .local):scope.names.lookup x=some .local:=by rw[Fd]at h;cases e:scope.names.lookup x with
 |none=>rw[e]at h;cases h|some k=>
  rw[e]at h;simp only[Sg,Option.some.injEq]at h;split at h
  ·cases h
  ·rw[h]
theorem Ip(ok:bB X.env.scope X.N scope N' ms)(I:am X P6 σ H s3)(hf:∀ b∈fp,cX X P6 H b/\b<s3.heap.objs.size):
  (dN X N' scope (d_ X.env scope.names []) s3.heap.objs.size fp s3 H).Ok where
 mod:=I.ok.mod;kind:=ok.kind;glob:=I.ok.glob;blt:=I.ok.blt;above:=On _;inj:=λx y c h1 h2=>I.ok.inj x y c (nQ h1) (nQ h2);has:=λx hx=>by
  have q:=ok.Qh hx;exact xw _ [] x (ok.cells I.ok) (.inl (PN q))
 cab:=λx c h=>by cases h
 hd:=I.ok.hd;frames:=I.ok.frames;stk:=.inl rfl;exf:=λb hb=>⟨OH (hf b hb).2,λx c e=>(hf b hb).1.2.2.2.2.1 x c (nQ e)⟩;bs:=λb o e=>I.bs b o e;bsz:=OI I.ok.bsz I.sz;noex:=λb o e hb=>by
  rcases(hf b hb).1.2.2.2.1 with z|z
  ·exact I.ok.noex b o e z
  ·exact OE (Ov (Ov (PD e) I.ok.bsz) z) (Pm _)
 exfs:=λb hb z=>by
  rcases Oe.mp (I.stkSub b z)with e|e
  ·exact(hf b hb).1.2.1 e
  ·exact(hf b hb).1.2.2.1 e
 funs:=I.stack;frf:=I.stkFree
theorem Do{s5:RC}{m:Str->Option be}(ok:bB X.env.scope X.N scope N' ms)(I:am X P6 σ H s5)(hk:∀ b o,s5.heap.get? b=some o->h'.get? b=some o):
  ∀(i:Nat) (x:Str) (v:V),N'[i]?=some x->(eQ ms σ)[i]?=some (some v)->oQ (relabel scope X.env) x->∃ u,az v u/\sH (compEnvC scope (d_ X.env scope.names []) C X.env) h' m x u:=by
 intro i x v e1 e2 e3;obtain⟨em,ev⟩:=xx e2;rcases e3 with e3|e3
 ·exact OE (ok.locals e3) (ok.own i x e1 em)
 ·have q:=ok.Qh e3;have en:=ok.out i x e1 em q;have fr:=ok.fr _ (PN q) rfl;obtain⟨m0,_,hl⟩:=I.loc;obtain⟨u,r,l⟩:=hl i x v en ev (.inr fr);nomatch u,r;rcases l with⟨k,_⟩|⟨k,c,e,o,ho,hd⟩
  ·have k':X.env.scope.names.lookup x=some .local:=k;rcases fr with fr|fr
   ·have fr':X.env.scope.names.lookup x=some .cell:=fr;rw[fr']at k';cases k'
   ·have fr':X.env.scope.names.lookup x=some .free:=fr;rw[fr']at k';cases k'
  ·obtain⟨c',hc'⟩:=xw _ [] x (ok.cells I.ok) (.inl (PN q));have z:=nQ hc';rw[e]at z;cases z;exact .inr ⟨e3,c,hc',o,hk c o ho,hd⟩
theorem Lr{h4:RW}{tk:Nat}{m:Str->Option be}(ok:bB X.env.scope X.N scope N' ms)(I:am X P6 σ H s3)(hf:∀ b∈fp,cX X P6 H b/\b<s3.heap.objs.size)(hn:h4.Ns s3.heap.objs.size m)(hk:∀ b o,s3.heap.get? b=some o->h4.get? b=some o):
  am (dN X N' scope (d_ X.env scope.names []) s3.heap.objs.size fp s3 H) [] (eQ ms σ) H {s3 with heap:=h4,toks:=tk} where
 ok:=Ip ok I hf;os:=rfl;bare:=I.bare;base:=Un.kept hk;loc:=⟨m,hn,Do ok I hk⟩;cell:=λx c e=>by
  obtain⟨v,o,ho,hd⟩:=I.cell x c (nQ e);exact⟨v,o,hk c o ho,hd⟩
 free:=I.hok.fresh (On _);freeC:=λx c e=>I.freeC x c (nQ e);pin:=λp hp=>OE (show p∈([]:RA)from hp) (by simp);hok:=I.hok.kept hk;len:=by rw[uA,ok.len];rfl
theorem Eb{cl:List (Str×Q2)}(I:am X P6 σ H s3)(hf:∀ b∈fp,cX X P6 H b/\b<s3.heap.objs.size)(J:am (dN X N' scope cl C fp s3 H) pins' σ' H' s'):am X P6 σ H' s':=I.call' J.os J.base J.hok J.bare λb hb=>by
  obtain⟨_,f1,_,f3,f4,f5⟩:=(hf b hb).1;exact⟨f3,f1,f4,f5⟩
theorem Lq(ok:bB X.env.scope X.N scope N' ms)(I:am X P6 σ H s3)(hf:∀ b∈fp,cX X P6 H b/\b<s3.heap.objs.size)(J:am (dN X N' scope (d_ X.env scope.names []) s3.heap.objs.size fp s3 H) pins' σ' H' s'):am (dN X N' scope (d_ X.env scope.names []) s3.heap.objs.size fp s3 H) [] (eQ ms σ) H' s' where
 ok:=J.ok;os:=J.os;bare:=J.bare;base:=J.base;loc:=by
  obtain⟨m,hn,_⟩:=J.loc;exact⟨m,hn,Do ok (Eb I hf J) λ_ _ e=>e⟩
 cell:=J.cell;free:=J.free;freeC:=J.freeC;pin:=λp hp=>OE (show p∈([]:RA)from hp) (by simp);hok:=J.hok;len:=by rw[uA,ok.len];rfl
end
def jw (X:Cx)(ifs:List Expr)(t:TT):Prop:=∀(P6:RA) (s:RC) (σ:St) (H:Hp) (Q:Bool->Hp->Prop),am X P6 σ H s->t σ H Q->
  RF (RK X.prog X.w) X.A (forIn ifs true λc r=>if r=true then do let ok<-isTrue c X.env (RS c X.env);So (ForInStep.yield ok)else So (ForInStep.yield r)) (TP X P6 σ Q) X.xe s
def nC:TT:=λ_ H Q=>Q true H
theorem Dn:jw X [] nC:=λ_ _ _ H _ I h=>wpAny_tests_nil ⟨H,I,h⟩
theorem JA{c:Expr}{t:TT}(h:PT X c t):jw X [c] t:=λP6 s σ H Q I q=>wpAny_tests_one (h P6 s σ H Q I q)
variable {A:Sn}{prog:RP}{s:RC}{elt iter:Expr}{ifs:List Expr}
theorem Ka{R:Result->RC->Prop}{target:Expr}{it acc:be}(I:Nat->RC->Prop)(turn:∀ n s (E:be->RC->Prop),I n s->RF (RK prog w) A (pyNext it) (λr s1=>match r with
   |none=>R (.ok .next) s1|some v=>RF (RK prog w) A (letOwnedTupleGo target it v) (λ_ s2=>RF (RK prog w) A (assign target env v) (λ_ s3=>RF (RK prog w) A (forIn ifs true λc r=>if r=true then do let ok<-isTrue c env (RS c env);So (ForInStep.yield ok)else So (ForInStep.yield r)) (λok s4=>if ok=true then RF (RK prog w) A (RS elt env) (λx s5=>RF (RK prog w) A (call (.builtin "list.append") [acc,x]) (λ_ s6=>∃ m,m<n/\I m s6) E s5) E s4
      else ∃ m,m<n/\I m s4) E s3) E s2) E s1) E s)(n:Nat)(h:I n s):codeAny (RK prog w) A (.compLoop (.ListComp elt [⟨target,iter,ifs,0⟩] scope pos) 0 it acc env) R s:=by
 refine codeAny_loop rfl I (λn s hI=>?_) n h;refine wpAny_noted (env:=env) ?_;rw[compTurn_list];refine Pz (P4 (Pz ?_));refine PL (turn n s _ hI) (λr s1 h1=>?_) λ_ _ e=>e;cases r with
 |none=>exact PF h1|some v=>
  refine Pz (PL h1 (λ_ s2 h2=>?_) λ_ _ e=>e);refine Pz (PL h2 (λ_ s3 h3=>?_) λ_ _ e=>e);refine Pz (PL h3 (λok s4 h4=>?_) λ_ _ e=>e);cases ok with
  |false=>exact PF ⟨rfl,h4⟩|true=>
   refine Pz (Pz (PL h4 (λx s5 h5=>?_) λ_ _ e=>e));exact Pz (PL h5 (λ_ s6 h6=>PF (PF ⟨rfl,h6⟩)) λ_ _ e=>e)
def nB (ms:List Bool)(wi:TI)(g:TG)(tt:TT)(te:TE):TE:=λσ H Q=>wi σ H λJ H1=>∀ D,H1 D=none->
 ∃ W:Nat->Nat->Ry->Hp->Prop,(∃ m,W 0 m [] (upd H1 D (.lst [])))/\∀ i m ys H,W i m ys H->H D=some (.lst ys)/\
  ((J.stop i H/\Q (.ref D) H)\/(J.go i H/\ys.length<sizeLine/\∃ N:Ry->Hp->Prop,(∀ ys' H',N ys' H'->∃ m',m'<m/\W (i+1) m' ys' H')/\
   ∀ x H',J.yld i H x H'->g x (eQ ms σ) H' λσ2 H2=>tt σ2 H2 λb H3=>if b=true then te σ2 H3 λy H4=>H4 D=some (.lst ys)/\N (ys++[y]) (upd H4 D (.lst (ys++[y])))else N ys H3))
variable {Q:VK}{g:TG}{te:TE}{tt:TT}{wi:TI}{tg:Expr}
section
set_option maxHeartbeats 4000000 in
theorem Ea{RR:be->Q2->Result->RC->Prop}(hc:X.calm=true)(ok:bB X.env.scope X.N scope N' ms)(hi:PI X tg iter wi)(hg:∀ cl C fp s3 H3,PG (dN X N' scope cl C fp s3 H3) tg g)(ht:∀ cl C fp s3 H3,jw (dN X N' scope cl C fp s3 H3) ifs tt)(he:∀ cl C fp s3 H3,PE (dN X N' scope cl C fp s3 H3) elt te)(I:am X P6 σ H s)(h:nB ms wi g tt te σ H Q)(hRR:∀ D C H' s' m,s'.heap.Ns C m->am X P6 σ H' s'->cX X P6 H' C->Q (.ref D) H'->RR (.ref D) C (.ok .next) s'):
  RF (RK X.prog X.w) X.A (RS iter X.env) (λx s1=>RF (RK X.prog X.w) X.A (pyIter x) (λit s2=>RF (RK X.prog X.w) X.A (newList []) (λacc s3=>RF (RK X.prog X.w) X.A (newFunctionEnv scope X.env.globals (d_ X.env scope.names []) [] X.env.qual none .none (some X.env)) (λcenv s4=>codeAny (RK X.prog X.w) X.A (.compStart (.ListComp elt [⟨tg,iter,ifs,0⟩] scope pos) 0 it acc {cenv with scope:=relabel scope X.env}) (RR acc cenv.locals) s4) X.xe s3) X.xe s2) X.xe s1) X.xe s:=by
 refine aL (hi P6 s σ H _ I h) λv s1 h1=>aL h1 λitv s2 h2=>?_;obtain⟨it,fp,tn,J,H2,e,I2,T,st2,f2,h2⟩:=h2;subst e;obtain⟨W,⟨m0,w0⟩,turn⟩:=h2 s2.heap.objs.size I2.fresh;refine PX ?_;have I3:=I2.lnew (ys:=[]) (its:=[]) (t':=s2.toks) .nil (O2 _);generalize hs3:({s2 with heap:=s2.heap.push {cls:=.type "list",data:=.seq ([]:List be).toArray},toks:=s2.toks}:RC)=s3 at I3;refine wpAny_newFunctionEnv ok.nocell (by intro y hy;simp at hy) (λh4 hn4 hs4=>?_) ok.kind;have sz:s3.heap.objs.size=s2.heap.objs.size+1:=by rw[<-hs3];exact Heap.size_push ..
 have old2:∀ b o,s2.heap.get? b=some o->s3.heap.get? b=some o:=λb o e=>by rw[<-hs3];exact PB _ e
 have old:∀ b o,s3.heap.get? b=some o->h4.get? b=some o:=λb o e=>hs4.extBut b o (OH (PD e)) (PB _ e);have fp2:∀ b∈fp,b<s2.heap.objs.size:=λb hb=>by obtain⟨o,ho,_⟩:=T.obj 0 _ st2 b hb;exact PD ho
 have nD:∀ b∈fp,b≠s2.heap.objs.size:=λb hb=>OH (fp2 b hb);have f3:∀ b∈fp,cX X P6 (upd H2 s2.heap.objs.size (.lst [])) b/\b<s3.heap.objs.size:=λb hb=>by refine⟨⟨?_,(f2 b hb).2⟩,by rw[sz];exact Nat.lt_succ_of_lt (fp2 b hb)⟩;rw[aC (nD b hb)];exact(f2 b hb).1
 have J4:am (dN X N' scope (d_ X.env scope.names []) s3.heap.objs.size fp s3 (upd H2 s2.heap.objs.size (.lst []))) [] (eQ ms σ) (upd H2 s2.heap.objs.size (.lst [])) {s3 with heap:=h4,toks:=s3.toks+0}:=Lr ok I3 f3 hn4 old
 have stat:∀{H':Hp},(∀ b∈fp,H' b=none)->∀ b∈fp,cX (dN X N' scope (d_ X.env scope.names []) s3.heap.objs.size fp s3 (upd H2 s2.heap.objs.size (.lst []))) [] H' b:=λhn b hb=>⟨hn b hb,(J4.ok.exf b hb).1,J4.ok.exfs b hb,.inl hb,(J4.ok.exf b hb).2,λp hp=>OE (show p∈([]:RA)from hp) (by simp)⟩
 have loop:codeAny (RK X.prog X.w) X.A (.compLoop (.ListComp elt [⟨tg,iter,ifs,0⟩] scope pos) 0 (.ref it) (.ref s2.heap.objs.size) (compEnvC scope (d_ X.env scope.names []) s3.heap.objs.size X.env))
   (RR (.ref s2.heap.objs.size) s3.heap.objs.size) {s3 with heap:=h4,toks:=s3.toks+0}:=by
  refine Ka (λn s'=>∃ i H' ys,am (dN X N' scope (d_ X.env scope.names []) s3.heap.objs.size fp s3 (upd H2 s2.heap.objs.size (.lst []))) [] (eQ ms σ) H' s'/\tn i s'.heap/\(∀ b∈fp,H' b=none)/\W i n ys H') ?_ m0
   ⟨0,_,[],J4,T.keep 0 _ _ st2 λb hb o e=>old b o (old2 b o e),λb hb=>(f3 b hb).1.1,w0⟩
  rintro n s5 E ⟨i,H5,ys,J5,st5,fr5,w5⟩;obtain⟨hD,alt⟩:=turn i n ys H5 w5;rcases alt with⟨stop,q⟩|⟨go,hz,N,hN,step⟩
  ·refine aL (T.done (dN X N' scope (d_ X.env scope.names []) s3.heap.objs.size fp s3 (upd H2 s2.heap.objs.size (.lst []))) rfl rfl rfl hc i [] s5 _ H5 E J5 (stat fr5) st5 stop) λr s6 ⟨hr,J6⟩=>?_;subst hr;obtain⟨m,hn,_⟩:=id J6.loc;have I6:=Eb I3 f3 J6;refine hRR _ _ H5 s6 m hn I6 ?_ q;have hC:H5 s3.heap.objs.size=none:=J6.free;obtain⟨g0,g1,g2,g3,g4,g5⟩:=I3.fpOk (b:=s3.heap.objs.size) (H':=H5) (On _) hC;exact⟨g0,g1,g2,g3,g4,g5⟩
  ·refine aL (T.item (dN X N' scope (d_ X.env scope.names []) s3.heap.objs.size fp s3 (upd H2 s2.heap.objs.size (.lst []))) rfl rfl rfl hc i [] s5 _ H5 E J5 (stat fr5) st5 go) λr s6 ⟨u,hr,h6⟩=>?_;subst hr;refine aL h6 λ_ s7 ⟨x,H7,J7,r7,y7,st7,fr7⟩=>?_;have J7':=J7.pinned (stat fr7) (T.obj _ _ st7);have again:∀{σ8:St}{H8:Hp}{s8:RC}{zs:Ry},am (dN X N' scope (d_ X.env scope.names []) s3.heap.objs.size fp s3 (upd H2 s2.heap.objs.size (.lst []))) ([]++ph fp s7.heap) σ8 H8 s8->N zs H8->
     ∃ m,m<n/\∃ i H' ys,am (dN X N' scope (d_ X.env scope.names []) s3.heap.objs.size fp s3 (upd H2 s2.heap.objs.size (.lst []))) [] (eQ ms σ) H' s8/\tn i s8.heap/\(∀ b∈fp,H' b=none)/\W i m ys H':=λ{σ8 H8 s8 zs} J8 n8=>by
    obtain⟨m',hm,w8⟩:=hN zs H8 n8;refine⟨m',hm,i+1,H8,zs,Lq ok I3 f3 J8,T.keep _ _ _ st7 λb hb o e=>(J8.pin (b,o) (Oz _ (Oz _ (uj hb e)))).1,λb hb=>?_,w8⟩;obtain⟨o,e,d⟩:=T.obj _ _ st7 b hb;exact(J8.pin (b,o) (Oz _ (Oz _ (uj hb e)))).2.1
   refine PL (hg _ _ _ _ _ _ s7 _ H7 x u _ J7' r7 (step x H7 y7)) (λ_ s8 ⟨σ8,H8,J8,q8⟩=>?_) λ_ _ z=>OR z;refine PL (ht _ _ _ _ _ _ s8 σ8 H8 _ J8 q8) (λb s9 ⟨H9,J9,q9⟩=>?_) λ_ _ z=>OR z;cases b with
   |false=>exact again J9 q9|true=>
    refine PL (he _ _ _ _ _ _ s9 σ8 H9 _ J9 q9) (λv s10 ⟨y,H10,J10,r10,hD10,q10⟩=>?_) λ_ _ z=>OR z;refine PL (ul (X:=(dN X N' scope (d_ X.env scope.names []) s3.heap.objs.size fp s3 (upd H2 s2.heap.objs.size (.lst [])))) _ s10 σ8 H10 (.ref s2.heap.objs.size) [y] (.ref s2.heap.objs.size) [v] (λ_ H'=>H'=upd H10 s2.heap.objs.size (.lst (ys++[y]))) J10 rfl (.cons r10 .nil) ⟨_,ys,y,rfl,rfl,hD10,hz,rfl⟩)
     (λ_ s11 ⟨_,H11,J11,_,e11⟩=>?_) λ_ _ z=>OR z
    subst e11;exact again J11 q10
 exact codeAny_compStart_list loop (T.self _ 0 _ _ _ (T.keep 0 _ _ st2 λb hb o e=>old b o (old2 b o e)) loop)
theorem CJ (hc:X.calm=true)(ok:bB X.env.scope X.N scope N' ms)(hi:PI X tg iter wi)
  (hg:∀ cl C fp s3 H3,PG (dN X N' scope cl C fp s3 H3) tg g) (ht:∀ cl C fp s3 H3,jw (dN X N' scope cl C fp s3 H3) ifs tt) (he:∀ cl C fp s3 H3,PE (dN X N' scope cl C fp s3 H3) elt te)
  (hs:autoParam (∀ x,foldedSetIterable iter X.env x=So x) lR):PE X (.ListComp elt [⟨tg,iter,ifs,0⟩] scope pos) (nB ms wi g tt te):=by intro P6 s σ H Q I h;rw[eval_ListComp];refine wpAny_comprehension_free (use:=none) rfl hs (CK (ok.cells I.ok)) ok.kind ok.nm ?_;refine Ea (RR:=λacc C=>compPost (RK X.prog X.w) X.A X.xe none (EP X P6 σ Q) acc C) hc ok hi hg ht he I h λD C H' s' m hn I' ⟨g0,g1,g2,g3,g4,g5⟩ q=>?_;refine⟨m,hn,λh' sb=>⟨.ref D,H',?_,rfl,q⟩⟩;exact I'.turned (t':=s'.toks) (λb o hb e=>sb.extBut b o hb e) g0 g1 g3 g4 g5
theorem KY{y:Str}{py spos:Pos}(hN:X.N.Nodup)(hy:X.N[i]?=some y)(hl:X.env.scope.names.lookup y=some .local)(hc:X.calm=true)(ok:bB X.env.scope X.N scope N' ms)(hi:PI X tg iter wi)(hg:∀ cl C fp s3 H3,PG (dN X N' scope cl C fp s3 H3) tg g)(ht:∀ cl C fp s3 H3,jw (dN X N' scope cl C fp s3 H3) ifs tt)(he:∀ cl C fp s3 H3,PE (dN X N' scope cl C fp s3 H3) elt te)(hsw:⇑(swapsWith (.ListComp elt [⟨tg,iter,ifs,0⟩] scope pos) (some (.Name y py)) spos.line X.env=So true))(hs:autoParam (∀ x,foldedSetIterable iter X.env x=So x) lR):PS X (.Assign [.Name y py] (.ListComp elt [⟨tg,iter,ifs,0⟩] scope pos) spos) (iw (nB ms wi g tt te) (mh i)):=by
 intro P6 s σ H D I h;rw[exec_Assign_Name_used _ _ _ _ hsw];refine Pz (P4 (Pz ?_));show RF _ _ (do let _<-comprehension (.ListComp elt [⟨tg,iter,ifs,0⟩] scope pos) scope X.env _ (newList []) false (RS iter X.env) (some (assign (.Name y py) X.env))) _ _ s;refine Pz (PL (wpAny_comprehension_free (use:=some (assign (.Name y py) X.env)) (Q:=λ_ s'=>SP X P6 D .next s') rfl hs (CK (ok.cells I.ok)) ok.kind ok.nm ?_) (λ_ s' q=>PF (PF q)) λ_ _ e=>e);refine Ea (RR:=λacc C=>compPost (RK X.prog X.w) X.A X.xe (some (assign (.Name y py) X.env)) (λ_ s'=>SP X P6 D .next s') acc C) hc ok hi hg ht he I h λDa C H' s' m hn I' ⟨g0,g1,g2,g3,g4,g5⟩ q=>?_;show RF _ _ (assign (.Name y py) X.env (.ref Da)) _ _ s';refine wpAny_assign_Name (D6 I' hN hy (.inl hl) (show az (.ref Da) (.ref Da)from rfl) (λs'' I'' ⟨a,sa,ha⟩=>?_) (.inr hl));have hCa:C≠a:=by
  rcases ha with e|e
  ·rw[e];exact g1
  ·exact λz=>g4 y a e z.symm
 refine⟨m,hn.sameBut sa hCa,λh' sb=>⟨σ.set i (some (.ref Da)),H',?_,q⟩⟩;exact I''.turned (t':=s''.toks) (λb o hb e=>sb.extBut b o hb e) g0 g1 g3 g4 g5
end
section
variable {t':Nat}
theorem am.turnedN {ch:Rz}(I:am X P6 σ H s)(hch:∀ b∈ch,cX X P6 H b)(k:∀ b o,b∉ch->s.heap.get? b=some o->h'.get? b=some o):am X P6 σ H {s with heap:=h',toks:=t'}:=by
 have nit:∀ b u,H b=some u->b∉ch:=λb u e z=>by rw[(hch b z).1]at e;cases e
 refine I.step (g':=s.gens) (d':=s.drawn) (ch:=ch) (λb hb=>?_) (λb o _ _ hc e _=>k b o hc e) (λb o _ _ hc e _=>⟨o.slots,k b o hc e⟩) (λ_ _ _ _ n=>n) (λb o hc e=>⟨o,k b o hc e⟩) (λ_ _ e=>e) (λ_ _ _ e=>e)
  (λb ps e=>⟨#[],by rw[e];simp⟩) (λm hm=>?_) (λb u e=>?_) I.bare
 ·obtain⟨_,f1,_,f3,f4,f5⟩:=hch b hb;exact⟨f3,f1,f4,f5⟩
 ·obtain⟨o,es,ep,ho,r⟩:=hm;exact⟨o,es,ep,k _ o (λz=>(hch _ z).2.1 rfl) ho,r⟩
 ·refine(I.hok b u e).stay (λc v hc q=>k c v ?_ q) (λ_ q=>q) λ_ _ q=>q;rcases hc with z|z
  ·rw[z];exact nit b u e
  ·exact nit c _ z
end
variable {h:RW}{b:Q2}
theorem KW{o u:Obj}(e1:h.get? a=some o)(e2:h.get? b=some u)(d:o.cls≠u.cls):a≠b:=λz=>by subst z;rw[e1]at e2;cases e2;exact d rfl
variable {T:String}
theorem lI{its:Array be}{u:Obj}(e1:h.IsList a its)(e2:h.get? b=some u)(c:u.cls=.type T)(d:T≠"list"):a≠b:=by obtain⟨o,ho,hc,_⟩:=e1;refine KW ho e2 ?_;rw[hc,c];intro z;injection z with z;exact d z.symm
def uW (K:Fg)(a b:Q2):It:=⟨λi H=>∃ xs ys x y,ao K H a xs/\ao K H b ys/\xs[i]?=some x/\ys[i]?=some y,
   λi H v H'=>∃ T,H T=none/\v=.ref T/\∀ xs ys x y,ao K H a xs->ao K H b ys->xs[i]?=some x->ys[i]?=some y->H'=upd H T (.tup [x,y]),
   λi H=>∃ xs ys,ao K H a xs/\ao K H b ys/\(xs[i]?=none\/ys[i]?=none)⟩
structure zU (z TI TO i1 i2:Q2):Prop where
 a1:TI≠z
 a2:TO≠z
 a3:i1≠z
 a4:i2≠z
 a5:TI≠TO
 a6:TI≠i1
 a7:TI≠i2
 a8:TO≠i1
 a9:TO≠i2
 a10:i1≠i2
theorem Io (n:Nat):zU (n+4) (n+2) (n+3) n (n+1):=by constructor<;>(show(_:Nat)≠_;omega)
def Bt (z TI TO i1 i2 a b:Q2)(i:Nat)(h:RW):Prop:=IsZip h z TI TO .none/\IsPair h TI (.ref i1) (.ref i2)/\(∃ p q,IsPair h TO p q)/\h.IsListIter i1 a i/\h.IsListIter i2 b i
variable {z i1 i2:Q2}
theorem BZ{TI TO:Q2}{xs ys:Array be}(D:zU z TI TO i1 i2)(t:Bt z TI TO i1 i2 a b i h)(hx:h.IsList a xs)(hy:h.IsList b ys):ZipApart z TI TO i1 i2 a b:=by obtain⟨hz,hI,⟨p,q,hO⟩,⟨o1,e1,c1,_⟩,⟨o2,e2,c2,_⟩⟩:=t;exact⟨D.a1,D.a2,D.a3,D.a4,D.a5,D.a6,D.a7,D.a8,D.a9,D.a10,lI hx hz rfl (by decide),lI hx hO rfl (by decide),lI hx e1 c1 (by decide),lI hx e2 c2 (by decide),lI hy hz rfl (by decide),lI hy hO rfl (by decide),lI hy e1 c1 (by decide),lI hy e2 c2 (by decide)⟩
variable {elts:List Expr}{kx:Nat}{tpos:Pos}
theorem Jz{TI TO:Q2}(a b:Q2)(D:zU z TI TO i1 i2):
  iC P w K (.Tuple elts kx tpos) (uW K a b) [z,TI,TO,i1,i2] z (Bt z TI TO i1 i2 a b) where
 mem:=by simp
 obj:=λi h st c hb=>by
  obtain⟨hz,hI,⟨p,q,hO⟩,⟨o1,e1,c1,d1⟩,⟨o2,e2,c2,d2⟩⟩:=st;push_cast at hb;rcases hb with rfl|rfl|rfl|rfl|rfl
  ·exact⟨_,hz,λv x=>by cases x⟩
  ·exact⟨_,hI,λv x=>by cases x⟩
  ·exact⟨_,hO,λv x=>by cases x⟩
  ·exact⟨_,e1,λv x=>by rw[d1]at x;cases x⟩
  ·exact⟨_,e2,λv x=>by rw[d2]at x;cases x⟩
 keep:=λi h h' st k=>by
  obtain⟨hz,hI,⟨p,q,hO⟩,h1,h2⟩:=st;exact⟨k z (by simp) _ hz,k TI (by simp) _ hI,⟨p,q,k TO (by simp) _ hO⟩,h1.at λo e=>k i1 (by simp) o e,h2.at λo e=>k i2 (by simp) o e⟩
 item:=by
  intro X hP hw hK hc i P6 s σ H E I hf st hg;subst hP hw hK;obtain⟨xs,ys,x,y,hx,hy,ex,ey⟩:=hg;obtain⟨its,rx,px,zx⟩:=I.list hx;obtain⟨jts,ry,py,zy⟩:=I.list hy;obtain⟨u,eu,ru⟩:=rx.get ex;obtain⟨v,ev,rv⟩:=ry.get ey;have Z:=BZ D st px.isList py.isList;obtain⟨hz,hI,⟨p,q,hO⟩,h1,h2⟩:=id st;refine wpAny_pyNext_zip_item Z hz hI hO h1 h2 px.isList py.isList (x:=u) (y:=v) (by simpa using eu) (by simpa using ev) λh' z1 o1 l1 l2 t1 sz k1=>?_;refine⟨_,rfl,wpAny_letOwnedTupleGo_zip (s:={s with heap:=h'}) z1 λh'' z2 sb=>?_⟩;have nT:H s.heap.objs.size=none:=I.hok.fresh (On _);have IT:am X P6 σ (upd H s.heap.objs.size (.tup [x,y])) {s with heap:=s.heap.push {cls:=.type "tuple",data:=.seq #[u,v]},toks:=s.toks}:=I.laid (λb o e=>PB _ e) (On _) (show cS X.prog X.w _ _ _ (.tup [x,y])from⟨by show 2<=sizeLine;decide,[u,v],.cons ru (.cons rv .nil),IsTup.new _ _⟩)
  have nz:z≠s.heap.objs.size:=OH (PD hz);have fT:∀ c∈[z,TI,TO,i1,i2],cX X P6 (upd H s.heap.objs.size (.tup [x,y])) c:=λc hcm=>by
   obtain⟨g0,gr⟩:=hf c hcm;refine⟨?_,gr⟩;obtain⟨o,ho,_⟩:∃ o,s.heap.get? c=some o/\True:=by
    push_cast at hcm;rcases hcm with rfl|rfl|rfl|rfl|rfl
    ·exact⟨_,hz,trivial⟩
    ·exact⟨_,hI,trivial⟩
    ·exact⟨_,hO,trivial⟩
    ·obtain⟨o,e,_⟩:=h1;exact⟨o,e,trivial⟩
    ·obtain⟨o,e,_⟩:=h2;exact⟨o,e,trivial⟩
   rw[aC (OH (PD ho))];exact g0
  have up:∀ c o,c∉[z,TI,TO,i1,i2]->(s.heap.push {cls:=.type "tuple",data:=.seq #[u,v]}).get? c=some o->h''.get? c=some o:=λc o hn e=>by
   simp only[Oe,OB,OV,Po]at hn;refine sb.extBut c o hn.1 ?_;by_cases hcs:c=s.heap.objs.size
   ·subst hcs;rw[PJ _ rfl]at e;cases e;exact t1
   ·refine k1 c o hn.1 hn.2.2.1 hn.2.2.2.1 hn.2.2.2.2 ?_;rw[Heap.get?_push_ne _ _ _ hcs]at e;exact e
  refine⟨.ref s.heap.objs.size,_,IT.turnedN (h':=h'') (t':=s.toks) fT up,rfl,⟨_,nT,rfl,λxs' ys' x' y' q1 q2 q3 q4=>?_⟩,?_,λc hcm=>(fT c hcm).1⟩
  ·rw[I.list_inj q1 hx,ex]at q3;rw[I.list_inj q2 hy,ey]at q4;cases q3;cases q4;rfl
  ·refine⟨z2,sb.extBut _ _ D.a1 (k1 _ _ D.a1 D.a5 D.a6 D.a7 hI),⟨_,_,sb.extBut _ _ D.a2 o1⟩,l1.extBut sb.extBut D.a3,l2.extBut sb.extBut D.a4⟩
 done:=by
  intro X hP hw hK hc i P6 s σ H E I hf st hg;subst hP hw hK;obtain⟨xs,ys,hx,hy,en⟩:=hg;obtain⟨its,rx,px,zx⟩:=I.list hx;obtain⟨jts,ry,py,zy⟩:=I.list hy;have Z:=BZ D st px.isList py.isList;obtain⟨hz,hI,⟨p,q,hO⟩,h1,h2⟩:=id st;have en':its.toArray[i]?=none\/jts.toArray[i]?=none:=by
   rcases en with e|e
   ·exact .inl (by simpa using rx.none_of e)
   ·exact .inr (by simpa using ry.none_of e)
  exact wpAny_pyNext_zip_end (I.ok.hd hc) Z hz hI hO h1 h2 px.isList py.isList en' λh' k1=>⟨rfl,I.turnedN (t':=s.toks) hf λc o hn e=>by
   simp only[Oe,OB,OV,Po]at hn;exact k1 c o hn.1 hn.2.2.1 hn.2.2.2.1 hn.2.2.2.2 e⟩
 self:=λ_ _ _ _ _ st h=>wpAny_pyIter_zip st.1 h
def mT (K:Fg)(ta:TA):TI:=λσ H R=>ta σ H λvs H1=>∃ a b,vs=[.ref a,.ref b]/\(∃ xs,ao K H1 a xs)/\(∃ ys,ao K H1 b ys)/\R (uW K a b) H1
theorem Jy:RQ "zip"=some (.type "zip"):=by decide+kernel
theorem MY:RQ "enumerate"=some (.type "enumerate"):=by decide+kernel
variable {p:Pos}
section
theorem Gg{a b:Expr}{ta:TA}(hg:Gl X "zip")(hm:X.mg "zip"=none)(ha:PA X [a,b] ta)(hs:⇑(RE [a,b] X.env=[(false,RS a X.env),(false,RS b X.env)]))(hs2:⇑(RE [b] X.env=[(false,RS b X.env)])):
  PI X (.Tuple elts kx tpos) (.Call (.Name "zip" p) [a,b] [] pos) (mT X.K ta):=by
 intro P6 s σ H R I h;refine Call_ (nX I hg hm Jy (Se (aL (ha pos P6 s σ H _ I h) λus s1 ⟨vs,H1,I1,r1,q1⟩=>?_) (by rw[hs,hs2]) (by rw[hs2];rfl)));obtain⟨l1,l2,e,⟨xs,hx⟩,⟨ys,hy⟩,q⟩:=q1;subst e;obtain⟨u,v,e,ru,rv⟩:=r1.two;subst e;cases ru;cases rv;obtain⟨its,rx,px,zx⟩:=I1.list hx;obtain⟨jts,ry,py,zy⟩:=I1.list hy;refine call_zip_2 px.isList py.isList λh' z1 p1 p2 i1 i2 sz k=>?_;refine wpAny_pyIter_zip (s:={s1 with heap:=h'}) z1 ?_;have I2:am X P6 σ H1 {s1 with heap:=h',toks:=s1.toks}:=I1.kept k;have D:=Io s1.heap.objs.size;refine⟨_,_,_,_,H1,rfl,I2,Jz l1 l2 D,⟨z1,p1,⟨_,_,p2⟩,i1,i2⟩,λc hc=>?_,q⟩;have le:s1.heap.objs.size<=c:=by push_cast at hc;first
   |(rcases hc with rfl|rfl|rfl|rfl|rfl<;>first|exact On _|exact Nat.le_add_right _ _)|(rcases hc with rfl|rfl<;>first|exact On _|exact Nat.le_add_right _ _)
 exact I1.fpOk le (I1.hok.fresh le)
end
def sI (K:Fg)(a:Q2):It:=⟨λi H=>∃ xs x,ao K H a xs/\xs[i]?=some x,
   λi H v H'=>∃ T,H T=none/\v=.ref T/\∀ xs x,ao K H a xs->xs[i]?=some x->H'=upd H T (.tup [.int i,x]),
   λi H=>∃ xs,ao K H a xs/\xs.length<=i⟩
def Gf (e it a:Q2)(i:Nat)(h:RW):Prop:=(∃ old,IsEnum h e it ((i:Nat):Int) old)/\h.IsListIter it a i
variable {it:Q2}
theorem J_{e:Q2}(a:Q2)(D:e≠it):
  iC P w K (.Tuple elts kx tpos) (sI K a) [e,it] e (Gf e it a) where
 mem:=by simp
 obj:=λi h st c hb=>by
  obtain⟨⟨old,he⟩,⟨o1,e1,c1,d1⟩⟩:=st;push_cast at hb;rcases hb with rfl|rfl
  ·exact⟨_,he,λv x=>by cases x⟩
  ·exact⟨_,e1,λv x=>by rw[d1]at x;cases x⟩
 keep:=λi h h' st k=>by
  obtain⟨⟨old,he⟩,h1⟩:=st;exact⟨⟨old,k e (by simp) _ he⟩,h1.at λo e=>k it (by simp) o e⟩
 item:=by
  intro X hP hw hK hc i P6 s σ H E I hf st hg;subst hP hw hK;obtain⟨xs,x,hx,ex⟩:=hg;obtain⟨its,rx,px,zx⟩:=I.list hx;obtain⟨u,eu,ru⟩:=rx.get ex;obtain⟨⟨old,he⟩,h1⟩:=id st;refine wpAny_pyNext_enum_item he h1 px.isList (x:=u) (by simpa using eu) D λh' z1 l1 t1 sz k1=>?_;refine⟨_,rfl,wpAny_letOwnedTupleGo_enum (s:={s with heap:=h',toks:=s.toks+1}) z1 λh'' z2 sb=>?_⟩;have nT:H s.heap.objs.size=none:=I.hok.fresh (On _);have IT:am X P6 σ (upd H s.heap.objs.size (.tup [.int i,x])) {s with heap:=s.heap.push {cls:=.type "tuple",data:=.seq #[.int i s.toks,u]},toks:=s.toks}:=I.laid (λb o e=>PB _ e) (On _) (show cS X.prog X.w _ _ _ (.tup [.int i,x])from⟨by show 2<=sizeLine;decide,[.int i s.toks,u],.cons ⟨_,rfl⟩ (.cons ru .nil),IsTup.new _ _⟩)
  have fT:∀ c∈[e,it],cX X P6 (upd H s.heap.objs.size (.tup [.int i,x])) c:=λc hcm=>by
   obtain⟨g0,gr⟩:=hf c hcm;refine⟨?_,gr⟩;obtain⟨o,ho,_⟩:∃ o,s.heap.get? c=some o/\True:=by
    push_cast at hcm;rcases hcm with rfl|rfl
    ·exact⟨_,he,trivial⟩
    ·obtain⟨o,e,_⟩:=h1;exact⟨o,e,trivial⟩
   rw[aC (OH (PD ho))];exact g0
  have up:∀ c o,c∉[e,it]->(s.heap.push {cls:=.type "tuple",data:=.seq #[.int i s.toks,u]}).get? c=some o->h''.get? c=some o:=λc o hn e2=>by
   simp only[Oe,OB,OV,Po]at hn;refine sb.extBut c o hn.1 ?_;by_cases hcs:c=s.heap.objs.size
   ·subst hcs;rw[PJ _ rfl]at e2;cases e2;exact t1
   ·refine k1 c o hn.1 hn.2 ?_;rw[Heap.get?_push_ne _ _ _ hcs]at e2;exact e2
  refine⟨.ref s.heap.objs.size,_,IT.turnedN (h':=h'') (t':=s.toks+1) fT up,rfl,⟨_,nT,rfl,λxs' x' q1 q3=>?_⟩,?_,λc hcm=>(fT c hcm).1⟩
  ·rw[I.list_inj q1 hx,ex]at q3;cases q3;rfl
  ·refine⟨⟨_,by rw[show(((i+1:Nat):Nat):Int)=(i:Int)+1 by omega];exact z2⟩,l1.extBut sb.extBut (R7 D)⟩
 done:=by
  intro X hP hw hK hc i P6 s σ H E I hf st hg;subst hP hw hK;obtain⟨xs,hx,en⟩:=hg;obtain⟨its,rx,px,zx⟩:=I.list hx;obtain⟨⟨old,he⟩,h1⟩:=id st;have hl:=rx.length;exact wpAny_pyNext_enum_end (I.ok.hd hc) he h1 px.isList (by simp;omega) λh' k1=>⟨rfl,I.turnedN (t':=s.toks) hf λc o hn e2=>by
   simp only[Oe,OB,OV,Po]at hn;exact k1 c o hn.2 e2⟩
 self:=λ_ _ _ _ _ st h=>by
  obtain⟨⟨old,he⟩,_⟩:=st;exact wpAny_pyIter_enum he h
def vw (K:Fg)(ta:TA):TI:=λσ H R=>ta σ H λvs H1=>∃ a xs,vs=[.ref a]/\H1 a=some (.lst xs)/\R (sI K a) H1
section
theorem Il{a:Expr}{ta:TA}(hg:Gl X "enumerate")(hm:X.mg "enumerate"=none)(ha:PA X [a] ta)(hs:⇑(RE [a] X.env=[(false,RS a X.env)])):
  PI X (.Tuple elts kx tpos) (.Call (.Name "enumerate" p) [a] [] pos) (vw X.K ta):=by
 intro P6 s σ H R I h;refine Call_ (nX I hg hm MY (Se (aL (ha pos P6 s σ H _ I h) λus s1 ⟨vs,H1,I1,r1,q1⟩=>?_) hs rfl));obtain⟨l1,xs,e,hx,q⟩:=q1;subst e;obtain⟨u,e,ru⟩:=jB r1;subst e;cases ru;obtain⟨z,its,n,r,hl,e⟩:=I1.lstM hx;refine call_enumerate_1 e λh' z1 i1 sz k=>?_;refine wpAny_pyIter_enum (s:={s1 with heap:=h'}) z1 ?_;have I2:am X P6 σ H1 {s1 with heap:=h',toks:=s1.toks}:=I1.kept k;refine⟨_,_,_,_,H1,rfl,I2,J_ l1 (e:=s1.heap.objs.size+1) (it:=s1.heap.objs.size) (Nat.succ_ne_self _),⟨⟨_,z1⟩,i1⟩,λc hc=>?_,q⟩;have le:s1.heap.objs.size<=c:=by push_cast at hc;first
   |(rcases hc with rfl|rfl|rfl|rfl|rfl<;>first|exact On _|exact Nat.le_add_right _ _)|(rcases hc with rfl|rfl<;>first|exact On _|exact Nat.le_add_right _ _)
 exact I1.fpOk le (I1.hok.fresh le)
end
section
theorem D_{bs:List Bool}{its:List be}(r:ay (bs.map V.bl) its){v:be}(e:its[i]?=some v):∃ b,bs[i]?=some b/\v=.bool b:=by
 have hl:=r.length;rw[aT]at hl;have hi:i<bs.length:=by have:=(d7.mp e).1;omega
 obtain⟨u,hu,ru⟩:=r.get (i:=i) (x:=V.bl bs[i]) (by simp[hi]);rw[e]at hu;cases hu;exact⟨bs[i],by simp[hi],ru⟩
theorem J3{bs:List Bool}(h:n=bs.length):(RD n).all (λi=>bs[i]?.getD false)=bs.all id:=by
 subst h;rw[Pa];simp only[OJ,List.mem_range,id];constructor
 ·intro q x hx;obtain⟨i,hi,rfl⟩:=List.getElem_of_mem hx;have:=q i hi;simpa[hi]using this
 ·intro q i hi;simpa[hi]using q bs[i] (OO hi)
theorem J2{bs:List Bool}(h:n=bs.length):(RD n).any (λi=>bs[i]?.getD false)=bs.any id:=by
 subst h;rw[Pa];simp only[List.any_eq_true,List.mem_range,id];constructor
 ·rintro⟨i,hi,q⟩;exact⟨bs[i],OO hi,by simpa[hi]using q⟩
 ·rintro⟨x,hx,q⟩;obtain⟨i,hi,rfl⟩:=List.getElem_of_mem hx;exact⟨i,hi,by simpa[hi]using q⟩
theorem Jx (hc:X.calm=true):dC X (.builtin "all") (λxs H Q=>∃(p:Q2) (bs:List Bool),xs=[.ref p]/\ao X.K H p (bs.map V.bl)/\Q (.bl (bs.all id)) H):=by
 intro P6 s σ H xs us Q I r h;obtain⟨p,bs,rfl,hq,q⟩:=h;obtain⟨u,rfl,rx⟩:=jB r;cases rx;obtain⟨its,rv,pl,hz⟩:=I.list hq;have hl:=rv.length;rw[aT]at hl;refine call_all_walk (wpAny_pyIter_list pl.isList ?_);have hne:p≠s.heap.objs.size:=by obtain⟨o,ho,_⟩:=pl.isList;exact OH (PD ho)
 refine⟨s.heap.objs.size,_,_,_,_,_,λi=>bs[i]?.getD false,rfl,Walks.list (show X.A.in1.handled=none from I.ok.hd hc) s.heap.objs.size p hne its.toArray,⟨⟨_,PJ _ rfl,rfl,rfl⟩,Heap.IsList.push pl.isList _⟩,λi v s' Q' E' hP hQ=>?_,λh' tk hk=>?_⟩
 ·obtain⟨b,hb,rfl⟩:=D_ rv (i:=i) (v:=v) (by simpa using hP);refine PP ?_;simpa[hb]using hQ
 ·rw[J3 (by rw[bL];exact hl.symm)];refine⟨.bl _,H,I.kept λb o e=>hk b o ?_ (PB _ e),rfl,q⟩;simp only[Oe,OB,OV];exact OH (PD e)
theorem Jw (hc:X.calm=true):dC X (.builtin "any") (λxs H Q=>∃(p:Q2) (bs:List Bool),xs=[.ref p]/\ao X.K H p (bs.map V.bl)/\Q (.bl (bs.any id)) H):=by
 intro P6 s σ H xs us Q I r h;obtain⟨p,bs,rfl,hq,q⟩:=h;obtain⟨u,rfl,rx⟩:=jB r;cases rx;obtain⟨its,rv,pl,hz⟩:=I.list hq;have hl:=rv.length;rw[aT]at hl;refine call_any_walk (wpAny_pyIter_list pl.isList ?_);have hne:p≠s.heap.objs.size:=by obtain⟨o,ho,_⟩:=pl.isList;exact OH (PD ho)
 refine⟨s.heap.objs.size,_,_,_,_,_,λi=>bs[i]?.getD false,rfl,Walks.list (show X.A.in1.handled=none from I.ok.hd hc) s.heap.objs.size p hne its.toArray,⟨⟨_,PJ _ rfl,rfl,rfl⟩,Heap.IsList.push pl.isList _⟩,λi v s' Q' E' hP hQ=>?_,λh' tk hk=>?_⟩
 ·obtain⟨b,hb,rfl⟩:=D_ rv (i:=i) (v:=v) (by simpa using hP);refine PP ?_;simpa[hb]using hQ
 ·rw[J2 (by rw[bL];exact hl.symm)];refine⟨.bl _,H,I.kept λb o e=>hk b o ?_ (PB _ e),rfl,q⟩;simp only[Oe,OB,OV];exact OH (PD e)
end
open PySem.SeqAt
inductive D where|non|bl (b:Bool)|int (i:Int)|str (x:Str)|lst (xs:List D)|tup (xs:List D)
mutual
def dg:D->Nat|.lst xs=>df xs+1|.tup xs=>df xs+1|_=>0
def df:List D->Nat|[]=>0|d::ds=>max (dg d) (df ds)
end
mutual
def aO:D->D->Bool|.non,.non=>true|.bl a,.bl b=>a==b|.int a,.int b=>a==b|.bl a,.int b=>(if a then 1 else 0)==b|.int a,.bl b=>a==(if b then 1 else 0)|.str a,.str b=>a==b|.lst xs,.lst ys=>cZ xs ys|.tup xs,.tup ys=>cZ xs ys|_,_=>false
def cZ:List D->List D->Bool|[],[]=>true|x::xs,y::ys=>aO x y&&cZ xs ys|_,_=>false
end
mutual
def al (K:Fg)(H:Hp):D->V->Prop|.non,v=>v=.non|.bl b,v=>v=.bl b|.int i,v=>v=.int i|.str x,v=>v=.str x|.lst ds,v=>∃ a xs,v=.ref a/\ao K H a xs/\au K H ds xs|.tup ds,v=>∃ a xs,v=.ref a/\aB K H a xs/\au K H ds xs
def au (K:Fg)(H:Hp):List D->Ry->Prop|[],vs=>vs=[]|d::ds,vs=>∃ v r,vs=v::r/\al K H d v/\au K H ds r
end
theorem pS:∀{ds:List D}{d:D},d∈ds->dg d<=df ds
 |d::ds,e,h=>by
  rcases Oe.mp h with h|h
  ·subst h;unfold df;exact Nat.le_max_left _ _
  ·have:=pS h;unfold df;exact OI this (Nat.le_max_right _ _)
theorem au.length:∀{ds:List D}{vs:Ry},au K H ds vs->ds.length=vs.length|[],vs,h=>by unfold au at h;subst h;rfl|d::ds,vs,h=>by unfold au at h;obtain⟨v,r,rfl,_,h⟩:=h;simp[au.length h]
theorem au.get:∀{ds:List D}{vs:Ry}{i:Nat}{d:D},au K H ds vs->ds[i]?=some d->∃ v,vs[i]?=some v/\al K H d v
 |[],vs,i,d,h,e=>by simp at e|c::ds,vs,i,d,h,e=>by unfold au at h;obtain⟨v,r,rfl,h1,h⟩:=h;cases i with
  |zero=>simp at e;subst e;exact⟨v,rfl,h1⟩|succ i=>obtain⟨w,e1,e2⟩:=au.get h (show ds[i]?=some d by simpa using e);exact⟨w,by simpa using e1,e2⟩
variable {vs:Ry}{ds:List D}
theorem au.get'(h:au K H ds vs)(e:vs[i]?=some v):∃ d,ds[i]?=some d/\al K H d v:=by have hl:=h.length;have hi:=(d7.mp e).1;obtain⟨w,e1,e2⟩:=h.get (i:=i) (d:=ds[i]) (by simp);rw[e]at e1;cases e1;exact⟨ds[i],by simp,e2⟩
theorem au.of:∀{ds:List D}{vs:Ry},ds.length=vs.length->(∀(i:Nat) d v,ds[i]?=some d->vs[i]?=some v->al K H d v)->au K H ds vs|[],[],_,_=>by unfold au;rfl|d::ds,v::vs,hl,h=>by unfold au;exact⟨v,vs,rfl,h 0 d v rfl rfl,au.of (by simpa using hl) λi e w e1 e2=>h (i+1) e w (by simpa using e1) (by simpa using e2)⟩
theorem au.ints:∀{ns:Rv}{vs:Ry},au K H (ns.map D.int) vs↔vs=ns.map V.int
 |[],vs=>by unfold Sa au;rfl|n::ns,vs=>by
  rw[bX];unfold au;constructor
  ·rintro⟨v,r,rfl,h1,h⟩;unfold al at h1;subst h1;rw[au.ints.mp h];rfl
  ·rintro rfl;exact⟨_,_,rfl,by unfold al;rfl,au.ints.mpr rfl⟩
theorem ae.tup(e:ae H H')(h:aB K H a xs):aB K H' a xs:=by
 rcases h with(h|⟨o,h⟩)|h
 ·exact .inl (.inl (e _ _ h))
 ·exact .inl (.inr ⟨o,e _ _ h⟩)
 ·exact .inr h
mutual
theorem al.same {K:Fg}{H H':Hp}(e:ae H H'):∀(d:D) {v:V},al K H d v->al K H' d v|.non,_,h=>by unfold al at*;exact h|.bl _,_,h=>by unfold al at*;exact h|.int _,_,h=>by unfold al at*;exact h|.str _,_,h=>by unfold al at*;exact h|.lst ds,_,h=>by unfold al at*;obtain⟨a,xs,h1,h2,h3⟩:=h;exact⟨a,xs,h1,e.seq h2,au.same e ds h3⟩|.tup ds,_,h=>by unfold al at*;obtain⟨a,xs,h1,h2,h3⟩:=h;exact⟨a,xs,h1,e.tup h2,au.same e ds h3⟩
theorem au.same {K:Fg}{H H':Hp}(e:ae H H'):∀(ds:List D) {vs:Ry},au K H ds vs->au K H' ds vs|[],_,h=>by unfold au at*;exact h|d::ds,_,h=>by unfold au at*;obtain⟨v,r,h1,h2,h3⟩:=h;exact⟨v,r,h1,al.same e d h2,au.same e ds h3⟩
end
mutual
theorem uk:∀ d:D,aO d d=true|.non=>by unfold aO;rfl|.bl _=>by unfold aO;simp|.int _=>by unfold aO;simp|.str _=>by unfold aO;simp|.lst ds=>by unfold aO;exact xC ds|.tup ds=>by unfold aO;exact xC ds
theorem xC:∀ ds:List D,cZ ds ds=true|[]=>by unfold cZ;rfl|d::ds=>by unfold cZ;rw[uk d,xC ds];rfl
end
theorem pW:∀{xs ys:List D},cZ xs ys=true->xs.length=ys.length|[],[],_=>rfl|[],_::_,h=>by unfold cZ at h;cases h|_::_,[],h=>by unfold cZ at h;cases h|x::xs,y::ys,h=>by unfold cZ at h;rw[Of]at h;simp[pW h.2]
theorem pV:∀{xs ys:List D},xs.length=ys.length->(RD xs.length).all (λj=>aO (xs.getD j .non) (ys.getD j .non))=cZ xs ys|[],[],_=>by unfold cZ;rfl|x::xs,y::ys,h=>by have ih:=pV (xs:=xs) (ys:=ys) (by simpa using h);unfold cZ;rw[OC,List.range_succ_eq_map,O_,OT,<-ih];rfl
theorem xB:∀{ms ns:Rv},cZ (ms.map D.int) (ns.map D.int)=decide (ms=ns)|[],[]=>by unfold Sa cZ;rfl|[],_::_=>by rw[bX];unfold Sa cZ;simp|_::_,[]=>by rw[bX];unfold Sa cZ;simp|m::ms,n::ns=>by rw[bX,bX];unfold cZ aO;rw[xB,Pa];simp
mutual
theorem al.inj {X:Cx}{P6:RA}{σ:St}{H:Hp}{s:RC}(I:am X P6 σ H s):∀(d e:D) {v:V},al X.K H d v->al X.K H e v->d=e
 |.non,e,v,h,q=>by unfold al at h;subst h;cases e<;>unfold al at q<;>first|rfl|(cases q;done)|(obtain⟨_,_,q,_⟩:=q;cases q)
 |.bl _,e,v,h,q=>by unfold al at h;subst h;cases e<;>unfold al at q<;>first|(cases q;rfl)|(cases q;done)|(obtain⟨_,_,q,_⟩:=q;cases q)
 |.int _,e,v,h,q=>by unfold al at h;subst h;cases e<;>unfold al at q<;>first|(cases q;rfl)|(cases q;done)|(obtain⟨_,_,q,_⟩:=q;cases q)
 |.str _,e,v,h,q=>by unfold al at h;subst h;cases e<;>unfold al at q<;>first|(cases q;rfl)|(cases q;done)|(obtain⟨_,_,q,_⟩:=q;cases q)
 |.lst ds,e,v,h,q=>by unfold al at h;obtain⟨a,xs,rfl,h1,h2⟩:=h;cases e with
  |lst es=>unfold al at q;obtain⟨b,ys,e1,q1,q2⟩:=q;cases e1;cases I.list_inj h1 q1;rw[au.inj I ds es h2 q2]|tup es=>unfold al at q;obtain⟨b,ys,e1,q1,q2⟩:=q;cases e1;obtain⟨_,_,p1,_⟩:=I.list h1;obtain⟨_,_,p2,_⟩:=I.tuple q1;exact OE rfl (ne_of_list_tuple (s:=s) p1.isList p2)|_=>unfold al at q;cases q
 |.tup ds,e,v,h,q=>by unfold al at h;obtain⟨a,xs,rfl,h1,h2⟩:=h;cases e with
  |tup es=>unfold al at q;obtain⟨b,ys,e1,q1,q2⟩:=q;cases e1;cases I.tuple_inj h1 q1;rw[au.inj I ds es h2 q2]|lst es=>unfold al at q;obtain⟨b,ys,e1,q1,q2⟩:=q;cases e1;obtain⟨_,_,p1,_⟩:=I.list q1;obtain⟨_,_,p2,_⟩:=I.tuple h1;exact OE rfl (ne_of_list_tuple (s:=s) p1.isList p2)|_=>unfold al at q;cases q
theorem au.inj {X:Cx}{P6:RA}{σ:St}{H:Hp}{s:RC}(I:am X P6 σ H s):∀(ds es:List D) {vs:Ry},au X.K H ds vs->au X.K H es vs->ds=es
 |[],es,vs,h,q=>by unfold au at h;subst h;cases es with
  |nil=>rfl|cons e es=>unfold au at q;obtain⟨_,_,q,_⟩:=q;cases q
 |d::ds,es,vs,h,q=>by unfold au at h;obtain⟨v,r,rfl,h1,h2⟩:=h;cases es with
  |nil=>unfold au at q;cases q|cons e es=>unfold au at q;obtain⟨w,r',e1,q1,q2⟩:=q;cases e1;rw[al.inj I d e h1 q1,au.inj I ds es h2 q2]
end
variable {y:V}{ys:Ry}{d:D}{us:List be}
section
variable {x:V}
theorem tE(h:al X.K H d x)(f:fL x=true):(∃ b,d=.bl b/\x=.bl b)\/(∃ i,d=.int i/\x=.int i)\/(∃ z,d=.str z/\x=.str z)\/(d=.non/\x=.non):=by cases d with
 |non=>unfold al at h;exact .inr (.inr (.inr ⟨rfl,h⟩))|bl b=>unfold al at h;exact .inl ⟨b,rfl,h⟩|int b=>unfold al at h;exact .inr (.inl ⟨b,rfl,h⟩)|str b=>unfold al at h;exact .inr (.inr (.inl ⟨b,rfl,h⟩))|lst ds=>unfold al at h;obtain⟨a,xs,rfl,_⟩:=h;cases f|tup ds=>unfold al at h;obtain⟨a,xs,rfl,_⟩:=h;cases f
variable {e:D}
theorem Jv(h:al X.K H d x)(q:al X.K H e y)(fx:fL x=true)(fy:fL y=true):ie x y=aO d e:=by rcases tE h fx with⟨b,rfl,rfl⟩|⟨b,rfl,rfl⟩|⟨b,rfl,rfl⟩|⟨rfl,rfl⟩<;>rcases tE q fy with⟨c,rfl,rfl⟩|⟨c,rfl,rfl⟩|⟨c,rfl,rfl⟩|⟨rfl,rfl⟩<;>unfold aO ie<;>rfl
theorem tU{es:List D}{vs:List be}(hd:au X.K H ds xs)(he:au X.K H es ys)(ru:ay xs us)(rv:ay ys vs)(ih:∀(d e:D) (x y:V) (u v:be),d∈ds->al X.K H d x->al X.K H e y->az x u->az y v->EqAt A s u v (aO d e)):
  ∀ j (h1:j<us.toArray.size) (h2:j<vs.toArray.size),EqAt A s us.toArray[j] vs.toArray[j] (aO (ds.getD j .non) (es.getD j .non)):=by
 intro j h1 h2;simp only[bL]at h1 h2;have l1:=hd.length;have l2:=he.length;have l3:=ru.length;have l4:=rv.length;have j1:j<ds.length:=by omega
 have j2:j<es.length:=by omega
 obtain⟨x,ex,rx⟩:=hd.get (i:=j) (d:=ds[j]) (by simp[j1]);obtain⟨y,ey,ry⟩:=he.get (i:=j) (d:=es[j]) (by simp[j2]);obtain⟨u,eu,ru'⟩:=ru.get ex;obtain⟨v,ev,rv'⟩:=rv.get ey;have e1:us.toArray[j]=u:=by obtain⟨_,q⟩:=d7.mp eu;simpa using q
 have e2:vs.toArray[j]=v:=by obtain⟨_,q⟩:=d7.mp ev;simpa using q
 rw[e1,e2,show ds.getD j .non=ds[j]by simp[List.getD,j1],show es.getD j .non=es[j]by simp[List.getD,j2]];exact ih _ _ x y u v (OO j1) rx ry ru' rv'
theorem BY (I:am X P6 σ H s):∀(n:Nat) (d e:D) (A:Sn) (x y:V) (u v:be),dg d<=n->A.units+n<cLine->al X.K H d x->al X.K H e y->az x u->az y v->EqAt A s u v (aO d e):=by intro n;induction n with
 |zero=>
  intro d e A x y u v hn hu hd he ru rv;have fx:fL x=true:=by cases d with
   |non=>unfold al at hd;subst hd;rfl|bl b=>unfold al at hd;subst hd;rfl|int b=>unfold al at hd;subst hd;rfl|str b=>unfold al at hd;subst hd;rfl|lst ds=>unfold dg at hn;omega|tup ds=>unfold dg at hn;omega
  by_cases fy:fL y=true
  ·rw[<-Jv hd he fx fy];exact B_ ru rv fx fy
  ·cases e with
   |non=>unfold al at he;subst he;exact OE rfl fy|bl b=>unfold al at he;subst he;exact OE rfl fy|int b=>unfold al at he;subst he;exact OE rfl fy|str b=>unfold al at he;subst he;exact OE rfl fy|lst es=>
    unfold al at he;obtain⟨a,ys,rfl,hq,_⟩:=he;cases rv;obtain⟨_,_,p,_⟩:=I.list hq;rcases tE hd fx with⟨b,rfl,rfl⟩|⟨b,rfl,rfl⟩|⟨b,rfl,rfl⟩|⟨rfl,rfl⟩
    ·cases ru;unfold aO;exact EqAt.bool_list b p.isList (by omega)
    ·obtain⟨t,rfl⟩:=ru;unfold aO;exact EqAt.int_list b t p.isList (by omega)
    ·obtain⟨t,rfl⟩:=ru;unfold aO;exact EqAt.str_list b t p.isList (by omega)
    ·cases ru;unfold aO;exact EqAt.none_list p.isList (by omega)|tup es=>
    unfold al at he;obtain⟨a,ys,rfl,hq,_⟩:=he;cases rv;obtain⟨_,_,p,_⟩:=I.tuple hq;rcases tE hd fx with⟨b,rfl,rfl⟩|⟨b,rfl,rfl⟩|⟨b,rfl,rfl⟩|⟨rfl,rfl⟩
    ·cases ru;unfold aO;exact EqAt.bool_tuple b p (by omega)
    ·obtain⟨t,rfl⟩:=ru;unfold aO;exact EqAt.int_tuple b t p (by omega)
    ·obtain⟨t,rfl⟩:=ru;unfold aO;exact EqAt.str_tuple b t p (by omega)
    ·cases ru;unfold aO;exact EqAt.none_tuple p (by omega)
 |succ n ih=>
  intro d e A x y u v hn hu hd he ru rv;by_cases h0:dg d<=n
  ·exact ih d e A x y u v h0 (by omega) hd he ru rv
  ·cases d with
   |non=>unfold dg at h0;omega|bl b=>unfold dg at h0;omega|int b=>unfold dg at h0;omega|str b=>unfold dg at h0;omega|lst ds=>unfold dg at hn;have hd0:=hd;unfold al at hd;obtain⟨a,xs,rfl,hx,rx⟩:=hd;cases ru;obtain⟨its,vx,px,zx⟩:=I.list hx;cases e with
    |non=>unfold al at he;subst he;cases rv;unfold aO;exact EqAt.list_none px.isList (by omega)|bl b=>unfold al at he;subst he;cases rv;unfold aO;exact EqAt.list_bool b px.isList (by omega)|int b=>unfold al at he;subst he;obtain⟨t,rfl⟩:=rv;unfold aO;exact EqAt.list_int b t px.isList (by omega)|str b=>unfold al at he;subst he;obtain⟨t,rfl⟩:=rv;unfold aO;exact EqAt.list_str b t px.isList (by omega)|tup es=>unfold al at he;obtain⟨b,ys,rfl,hy,ry⟩:=he;cases rv;obtain⟨jts,vy,py,zy⟩:=I.tuple hy;unfold aO;exact EqAt.list_tuple px.isList py (by omega)|lst es=>
     have he0:=he;unfold al at he;obtain⟨b,ys,rfl,hy,ry⟩:=he;cases rv;obtain⟨jts,vy,py,zy⟩:=I.list hy;by_cases hab:a=b
     ·subst hab;rw[al.inj I _ _ hd0 he0,uk];exact EqAt.same _
     ·refine EqAt.of_refs hab ?_;unfold aO;have l1:=rx.length;have l2:=ry.length;have l3:=vx.length;have l4:=vy.length;by_cases hl:ds.length=es.length
      ·have q:=RcAt.lists (A:=A) (e:=λj=>aO (ds.getD j .non) (es.getD j .non)) px.isList py.isList (by simp only[bL];omega) (by omega)
        (tU rx ry vx vy λd e x y u v hm h1 h2 h3 h4=>ih d e A.in1 x y u v (OI (pS hm) (by omega)) (by show A.units+1+n<cLine;omega) h1 h2 h3 h4)
       rw[show its.toArray.size=ds.length by rw[bL];omega,pV hl]at q;exact q
      ·rw[show cZ ds es=false by cases h:cZ ds es with
        |false=>rfl|true=>exact OE (pW h) hl]
       exact RcAt.lists_lengths px.isList py.isList (by simp only[bL,bne_iff_ne];omega) (by omega)
   |tup ds=>unfold dg at hn;have hd0:=hd;unfold al at hd;obtain⟨a,xs,rfl,hx,rx⟩:=hd;cases ru;obtain⟨its,vx,px,zx⟩:=I.tuple hx;cases e with
    |non=>unfold al at he;subst he;cases rv;unfold aO;exact EqAt.tuple_none px (by omega)|bl b=>unfold al at he;subst he;cases rv;unfold aO;exact EqAt.tuple_bool b px (by omega)|int b=>unfold al at he;subst he;obtain⟨t,rfl⟩:=rv;unfold aO;exact EqAt.tuple_int b t px (by omega)|str b=>unfold al at he;subst he;obtain⟨t,rfl⟩:=rv;unfold aO;exact EqAt.tuple_str b t px (by omega)|lst es=>unfold al at he;obtain⟨b,ys,rfl,hy,ry⟩:=he;cases rv;obtain⟨jts,vy,py,zy⟩:=I.list hy;unfold aO;exact EqAt.tuple_list px py.isList (by omega)|tup es=>
     have he0:=he;unfold al at he;obtain⟨b,ys,rfl,hy,ry⟩:=he;cases rv;obtain⟨jts,vy,py,zy⟩:=I.tuple hy;by_cases hab:a=b
     ·subst hab;rw[al.inj I _ _ hd0 he0,uk];exact EqAt.same _
     ·refine EqAt.of_refs hab ?_;unfold aO;have l1:=rx.length;have l2:=ry.length;have l3:=vx.length;have l4:=vy.length;have q:=RcAt.tuples (A:=A) (e:=λj=>aO (ds.getD j .non) (es.getD j .non)) px py (by omega)
        (tU rx ry vx vy λd e x y u v hm h1 h2 h3 h4=>ih d e A.in1 x y u v (OI (pS hm) (by omega)) (by show A.units+1+n<cLine;omega) h1 h2 h3 h4)
      by_cases hl:ds.length=es.length
      ·rw[show min its.toArray.size jts.toArray.size=ds.length by rw[bL,bL];omega,pV hl,show(its.toArray.size==jts.toArray.size)=true by rw[bL,bL,Pd];omega,O4]at q;exact q
      ·rw[show cZ ds es=false by cases h:cZ ds es with
        |false=>rfl|true=>exact OE (pW h) hl]
       rw[show(its.toArray.size==jts.toArray.size)=false by rw[bL,bL,O9];omega,Pl]at q;exact q
theorem Cp(I:am X P6 σ H s)(hn:dg d<=n)(hu:A.units+n<cLine)(hd:al X.K H d (.ref a))(he:al X.K H e (.ref b)):RcAt A s (.ref a) (.ref b) (aO d e)/\RcNeAt A s (.ref a) (.ref b) (!aO d e):=by cases d with
 |non=>unfold al at hd;cases hd|bl _=>unfold al at hd;cases hd|int _=>unfold al at hd;cases hd|str _=>unfold al at hd;cases hd|lst ds=>unfold dg at hn;unfold al at hd;obtain⟨_,xs,e1,hx,rx⟩:=hd;cases e1;obtain⟨its,vx,px,zx⟩:=I.list hx;cases e with
  |non=>unfold al at he;cases he|bl _=>unfold al at he;cases he|int _=>unfold al at he;cases he|str _=>unfold al at he;cases he|tup es=>unfold al at he;obtain⟨_,ys,e1,hy,ry⟩:=he;cases e1;obtain⟨jts,vy,py,zy⟩:=I.tuple hy;unfold aO;exact⟨RcAt.list_tuple px.isList py (by omega),RcNeAt.list_tuple px.isList py (by omega)⟩|lst es=>
   unfold al at he;obtain⟨_,ys,e1,hy,ry⟩:=he;cases e1;obtain⟨jts,vy,py,zy⟩:=I.list hy;unfold aO;have l1:=rx.length;have l2:=ry.length;have l3:=vx.length;have l4:=vy.length;by_cases hl:ds.length=es.length
   ·have it:=tU (s:=s) (A:=A.in1) rx ry vx vy λd e x y u v hm h1 h2 h3 h4=>BY I (n - 1) d e A.in1 x y u v (OI (pS hm) (by omega)) (by show A.units+1+(n - 1)<cLine;omega) h1 h2 h3 h4;have q:=RcAt.lists (A:=A) px.isList py.isList (by simp only[bL];omega) (by omega) it;have q2:=RcNeAt.lists (A:=A) px.isList py.isList (by simp only[bL];omega) (by omega) it;rw[show its.toArray.size=ds.length by rw[bL];omega,pV hl]at q q2;exact⟨q,q2⟩
   ·rw[show cZ ds es=false by cases h:cZ ds es with
     |false=>rfl|true=>exact OE (pW h) hl]
    exact⟨RcAt.lists_lengths px.isList py.isList (by simp only[bL,bne_iff_ne];omega) (by omega),RcNeAt.lists_lengths px.isList py.isList (by simp only[bL,bne_iff_ne];omega) (by omega)⟩
 |tup ds=>unfold dg at hn;unfold al at hd;obtain⟨_,xs,e1,hx,rx⟩:=hd;cases e1;obtain⟨its,vx,px,zx⟩:=I.tuple hx;cases e with
  |non=>unfold al at he;cases he|bl _=>unfold al at he;cases he|int _=>unfold al at he;cases he|str _=>unfold al at he;cases he|lst es=>unfold al at he;obtain⟨_,ys,e1,hy,ry⟩:=he;cases e1;obtain⟨jts,vy,py,zy⟩:=I.list hy;unfold aO;exact⟨RcAt.tuple_list px py.isList (by omega),RcNeAt.tuple_list px py.isList (by omega)⟩|tup es=>
   unfold al at he;obtain⟨_,ys,e1,hy,ry⟩:=he;cases e1;obtain⟨jts,vy,py,zy⟩:=I.tuple hy;unfold aO;have l1:=rx.length;have l2:=ry.length;have l3:=vx.length;have l4:=vy.length;have it:=tU (s:=s) (A:=A.in1) rx ry vx vy λd e x y u v hm h1 h2 h3 h4=>BY I (n - 1) d e A.in1 x y u v (OI (pS hm) (by omega)) (by show A.units+1+(n - 1)<cLine;omega) h1 h2 h3 h4;have q:=RcAt.tuples (A:=A) px py (by omega) it;have q2:=RcNeAt.tuples (A:=A) px py (by omega) it;by_cases hl:ds.length=es.length
   ·rw[show min its.toArray.size jts.toArray.size=ds.length by rw[bL,bL];omega,pV hl,show(its.toArray.size==jts.toArray.size)=true by rw[bL,bL,Pd];omega,O4]at q q2;exact⟨q,q2⟩
   ·rw[show cZ ds es=false by cases h:cZ ds es with
     |false=>rfl|true=>exact OE (pW h) hl]
    rw[show(its.toArray.size==jts.toArray.size)=false by rw[bL,bL,O9];omega,Pl]at q q2;exact⟨q,q2⟩
end
def kQ (K:Fg)(neg:Bool):R2:=λx y H Q=>∃ a b d e,x=.ref a/\y=.ref b/\al K H d (.ref a)/\al K H e (.ref b)/\dg d<=60/\Q (.bl (if neg then !aO d e else aO d e)) H
section
variable {k:Nat}
theorem Ge (hr:aS k X.A):cf X (RO .Eq) (kQ X.K false):=by intro P6 s σ H x y v u Q I rx ry h;obtain⟨a,b,d,e,rfl,rfl,hd,he,hn,q⟩:=h;cases rx;cases ry;exact(Cp I (A:=X.A) hn (by have:=hr.units;omega) hd he).1 X.prog X.w X.xe _ ⟨.bl _,H,I,rfl,q⟩
theorem Gd (hr:aS k X.A):cf X (RO .NotEq) (kQ X.K true):=by intro P6 s σ H x y v u Q I rx ry h;obtain⟨a,b,d,e,rfl,rfl,hd,he,hn,q⟩:=h;cases rx;cases ry;exact(Cp I (A:=X.A) hn (by have:=hr.units;omega) hd he).2 X.prog X.w X.xe _ ⟨.bl _,H,I,rfl,q⟩
theorem LE:dC X (.builtin "isinstance") (λxs H Q=>∃ x c t b,xs=[x,.ty c]/\dj X.K H x t/\PySem.W.kitOne X.K t (.type c)=some b/\Q (.bl b) H):=by intro P6 s σ H xs us Q I r h;obtain⟨x,c,t,b,rfl,ty,e,q⟩:=h;obtain⟨u,v,rfl,ru,rv⟩:=vh r;cases rv;exact Ld I ru ty e λtk=>⟨.bl b,H,I.tok tk,rfl,q⟩
end
mutual
def ai (H:Hp):D->V->Rz->Prop|.non,v,fp=>v=.non/\fp=[]|.bl b,v,fp=>v=.bl b/\fp=[]|.int i,v,fp=>v=.int i/\fp=[]|.str x,v,fp=>v=.str x/\fp=[]|.lst ds,v,fp=>∃ a xs r,v=.ref a/\fp=a::r/\H a=some (.lst xs)/\aj H ds xs r|.tup ds,v,fp=>∃ a xs,v=.ref a/\H a=some (.tup xs)/\aj H ds xs fp
def aj (H:Hp):List D->Ry->Rz->Prop|[],vs,fp=>vs=[]/\fp=[]|d::ds,vs,fp=>∃ v r f g,vs=v::r/\fp=f++g/\ai H d v f/\aj H ds r g
end
mutual
theorem ai.rep {K:Fg}{H:Hp}:∀(d:D) {v:V}{fp:Rz},ai H d v fp->al K H d v|.non,_,_,h=>by unfold ai at h;unfold al;exact h.1|.bl _,_,_,h=>by unfold ai at h;unfold al;exact h.1|.int _,_,_,h=>by unfold ai at h;unfold al;exact h.1|.str _,_,_,h=>by unfold ai at h;unfold al;exact h.1|.lst ds,_,_,h=>by unfold ai at h;unfold al;obtain⟨a,xs,r,h1,_,h2,h3⟩:=h;exact⟨a,xs,h1,ao.of h2,aj.reps ds h3⟩|.tup ds,_,_,h=>by unfold ai at h;unfold al;obtain⟨a,xs,h1,h2,h3⟩:=h;exact⟨a,xs,h1,aB.of h2,aj.reps ds h3⟩
theorem aj.reps {K:Fg}{H:Hp}:∀(ds:List D) {vs:Ry}{fp:Rz},aj H ds vs fp->au K H ds vs|[],_,_,h=>by unfold aj at h;unfold au;exact h.1|d::ds,_,_,h=>by unfold aj at h;unfold au;obtain⟨v,r,f,g,h1,_,h2,h3⟩:=h;exact⟨v,r,h1,ai.rep d h2,aj.reps ds h3⟩
end
def ci (H H':Hp):Prop:=∀ b xs,H b=some (.tup xs)->H' b=some (.tup xs)
theorem ae.tups(e:ae H H'):ci H H':=λ_ _ h=>e _ _ h
theorem ci.trans(a:ci H H1)(b:ci H1 H2):ci H H2:=λc o h=>b c o (a c o h)
variable {o:HO}
theorem pR(h:∀ xs,H a≠some (.tup xs)):ci H (upd H a o):=λb xs e=>by rw[aC (λz=>h xs (by rw[<-z];exact e))];exact e
theorem kM(h:H a=some (.lst ys)):ci H (upd H a o):=pR λxs e=>by rw[h]at e;cases e
mutual
theorem ai.frame {H H':Hp}(tk:ci H H'):∀(d:D) {v:V}{fp:Rz},(∀ a∈fp,H' a=H a)->ai H d v fp->ai H' d v fp|.non,_,_,_,h=>by unfold ai at*;exact h|.bl _,_,_,_,h=>by unfold ai at*;exact h|.int _,_,_,_,h=>by unfold ai at*;exact h|.str _,_,_,_,h=>by unfold ai at*;exact h|.lst ds,_,_,k,h=>by unfold ai at*;obtain⟨a,xs,r,h1,h0,h2,h3⟩:=h;subst h0;exact⟨a,xs,r,h1,rfl,(k a Oi).trans h2,aj.frame tk ds (λb hb=>k b (Oo _ hb)) h3⟩|.tup ds,_,_,k,h=>by unfold ai at*;obtain⟨a,xs,h1,h2,h3⟩:=h;exact⟨a,xs,h1,tk _ _ h2,aj.frame tk ds k h3⟩
theorem aj.frame {H H':Hp}(tk:ci H H'):∀(ds:List D) {vs:Ry}{fp:Rz},(∀ a∈fp,H' a=H a)->aj H ds vs fp->aj H' ds vs fp|[],_,_,_,h=>by unfold aj at*;exact h|d::ds,_,_,k,h=>by unfold aj at*;obtain⟨v,r,f,g,h1,h0,h2,h3⟩:=h;subst h0;exact⟨v,r,f,g,h1,rfl,ai.frame tk d (λb hb=>k b (OK _ hb)) h2,aj.frame tk ds (λb hb=>k b (Oz _ hb)) h3⟩
end
mutual
theorem ai.has {H:Hp}:∀(d:D) {v:V}{fp:Rz},ai H d v fp->∀ a∈fp,∃ o,H a=some o
 |.non,_,_,h,a,m=>by unfold ai at h;rw[h.2]at m;cases m|.bl _,_,_,h,a,m=>by unfold ai at h;rw[h.2]at m;cases m|.int _,_,_,h,a,m=>by unfold ai at h;rw[h.2]at m;cases m|.str _,_,_,h,a,m=>by unfold ai at h;rw[h.2]at m;cases m|.lst ds,_,_,h,b,m=>by
  unfold ai at h;obtain⟨a,xs,r,h1,h0,h2,h3⟩:=h;subst h0;rcases Oe.mp m with m|m
  ·subst m;exact⟨_,h2⟩
  ·exact aj.has ds h3 b m|.tup ds,_,_,h,b,m=>by unfold ai at h;obtain⟨a,xs,h1,h2,h3⟩:=h;exact aj.has ds h3 b m
theorem aj.has {H:Hp}:∀(ds:List D) {vs:Ry}{fp:Rz},aj H ds vs fp->∀ a∈fp,∃ o,H a=some o
 |[],_,_,h,a,m=>by unfold aj at h;rw[h.2]at m;cases m|d::ds,_,_,h,b,m=>by
  unfold aj at h;obtain⟨v,r,f,g,h1,h0,h2,h3⟩:=h;subst h0;rcases bW.mp m with m|m
  ·exact ai.has d h2 b m
  ·exact aj.has ds h3 b m
end
theorem aj.length:∀{ds:List D}{vs:Ry}{fp:Rz},aj H ds vs fp->ds.length=vs.length|[],_,_,h=>by unfold aj at h;rw[h.1];rfl|d::ds,_,_,h=>by unfold aj at h;obtain⟨v,r,f,g,rfl,_,_,h3⟩:=h;simp[aj.length h3]
theorem aj.snoc:∀{ds:List D}{vs:Ry}{fp:Rz}{d:D}{v:V}{f:Rz},aj H ds vs fp->ai H d v f->aj H (ds++[d]) (vs++[v]) (fp++f)|[],_,_,d,v,f,h,q=>by unfold aj at h;obtain⟨rfl,rfl⟩:=h;show aj H [d] [v] ([]++f);unfold aj;exact⟨v,[],f,[],rfl,by simp,q,by unfold aj;exact⟨rfl,rfl⟩⟩|c::ds,_,_,d,v,f,h,q=>by unfold aj at h;obtain⟨u,r,f1,g1,rfl,rfl,h2,h3⟩:=h;rw[List.cons_append,List.cons_append,OW];unfold aj;exact⟨u,_,f1,_,rfl,rfl,h2,aj.snoc h3 q⟩
theorem aj.ints:∀{ns:Rv},aj H (ns.map D.int) (ns.map V.int) []|[]=>by unfold Sa aj;exact⟨rfl,rfl⟩|n::ns=>by rw[bX,bX];unfold aj;exact⟨_,_,[],[],rfl,rfl,by unfold ai;exact⟨rfl,rfl⟩,aj.ints⟩
theorem aj.ints_eq:∀{ns:Rv}{vs:Ry}{fp:Rz},aj H (ns.map D.int) vs fp->vs=ns.map V.int/\fp=[]|[],_,_,h=>by unfold Sa aj at h;exact h|n::ns,_,_,h=>by rw[bX]at h;unfold aj at h;obtain⟨v,r,f,g,rfl,rfl,h1,h2⟩:=h;unfold ai at h1;obtain⟨rfl,rfl⟩:=h1;obtain⟨rfl,rfl⟩:=aj.ints_eq h2;exact⟨rfl,rfl⟩
theorem wV:∀ ns:Rv,dg (.lst (ns.map D.int))<=1|[]=>by unfold Sa dg df;exact On _|n::ns=>by have ih:=wV ns;unfold dg at ih ⊢;rw[bX];unfold df dg;omega
def ak (H H':Hp)(d:D)(v:V):Prop:=∃ fp,ai H' d v fp/\fp.Nodup/\∀ a∈fp,H a=none
abbrev nums (ns:Rv):D:=.lst (ns.map D.int)
theorem ak.rep(h:ak H H' d v):al K H' d v:=let ⟨_,h,_⟩:=h;ai.rep d h
variable {i:Int}
theorem ak.int:ak H H' (.int i) (.int i):=⟨[],by unfold ai;exact⟨rfl,rfl⟩,OX,λ_ m=>by cases m⟩
theorem ak.bl{i:Bool}:ak H H' (.bl i) (.bl i):=⟨[],by unfold ai;exact⟨rfl,rfl⟩,OX,λ_ m=>by cases m⟩
theorem ak.str{i:Str}:ak H H' (.str i) (.str i):=⟨[],by unfold ai;exact⟨rfl,rfl⟩,OX,λ_ m=>by cases m⟩
theorem ak.non:ak H H' .non .non:=⟨[],by unfold ai;exact⟨rfl,rfl⟩,OX,λ_ m=>by cases m⟩
variable {H0:Hp}
theorem ak.back(e:ae H0 H)(h:ak H H' d v):ak H0 H' d v:=by obtain⟨fp,h1,h2,h3⟩:=h;exact⟨fp,h1,h2,λa m=>e.free (h3 a m)⟩
theorem ak.same(e:ae H' H2)(h:ak H H' d v):ak H H2 d v:=by obtain⟨fp,h1,h2,h3⟩:=h;refine⟨fp,ai.frame e.tups d (λa m=>?_) h1,h2,h3⟩;obtain⟨o,ho⟩:=ai.has d h1 a m;rw[ho,e a o ho]
theorem ak.iif:ak H H' (nums ns) v↔∃ a,v=.ref a/\H a=none/\H' a=some (.lst (ns.map V.int)):=by
 constructor
 ·rintro⟨fp,h1,h2,h3⟩;unfold ai at h1;obtain⟨a,xs,r,e1,e2,e3,e4⟩:=h1;obtain⟨rfl,rfl⟩:=aj.ints_eq e4;subst e2;exact⟨a,e1,h3 a Oi,e3⟩
 ·rintro⟨a,e1,e2,e3⟩;refine⟨[a],?_,by simp,λb m=>by rw[bn.mp m];exact e2⟩;unfold ai;exact⟨a,_,[],e1,rfl,e3,aj.ints⟩
theorem fO:al K H (nums ns) v↔∃ a,v=.ref a/\ao K H a (ns.map V.int):=by
 unfold al;constructor
 ·rintro⟨a,xs,e1,e2,e3⟩;rw[au.ints.mp e3]at e2;exact⟨a,e1,e2⟩
 ·rintro⟨a,e1,e2⟩;exact⟨a,_,e1,e2,au.ints.mpr rfl⟩
theorem ax{p:Q2}(h:H p=none)(o:HO):ae H (upd H p o):=λb u q=>by rw[aC (cj q h)];exact q
theorem ak.lst(h:aj H' ds vs fp)(nd:fp.Nodup)(hf:∀ b∈fp,H1 b=none)(ha:H1 a=none)(na:a∉fp)(hH:H' a=some (.lst vs)):ak H1 H' (.lst ds) (.ref a):=by
 refine⟨a::fp,?_,OM.mpr ⟨na,nd⟩,λb m=>?_⟩
 ·unfold ai;exact⟨a,vs,fp,rfl,rfl,hH,h⟩
 ·rcases Oe.mp m with m|m
  ·subst m;exact ha
  ·exact hf b m
theorem ak.tup(h:aj H' ds vs fp)(nd:fp.Nodup)(hf:∀ b∈fp,H1 b=none)(hH:H' a=some (.tup vs)):ak H1 H' (.tup ds) (.ref a):=by refine⟨fp,?_,nd,hf⟩;unfold ai;exact⟨a,vs,rfl,hH,h⟩
structure fi (J:It)(H1:Hp)(n:Nat)(P:Nat->V->Hp->Prop):Prop where
 go:∀ i H,i<n->ae H1 H->J.go i H
 stop:∀ H,ae H1 H->J.stop n H
 yld:∀ i H x H',i<n->ae H1 H->J.yld i H x H'->ae H H'/\P i x H'
theorem dO(h:ao K H1 a xs):fi (lg K a) H1 xs.length (λi x _=>xs[i]?=some x) where
 go:=λi H hi e=>⟨xs,xs[i],e.seq h,by simp[hi]⟩;stop:=λH e=>⟨xs,e.seq h,On _⟩;yld:=λi H x H' hi e q=>by
  obtain⟨rfl,q⟩:=q;exact⟨ae.refl _,q xs (e.seq h)⟩
theorem pN(h:aB K H1 a xs):fi (uX K a) H1 xs.length (λi x _=>xs[i]?=some x) where
 go:=λi H hi e=>⟨xs,xs[i],e.tup h,by simp[hi]⟩;stop:=λH e=>⟨xs,e.tup h,On _⟩;yld:=λi H x H' hi e q=>by
  obtain⟨rfl,q⟩:=q;exact⟨ae.refl _,q xs (e.tup h)⟩
variable {lo:Int}
theorem kO:fi (k_ lo n) H1 n (λi x _=>x=.int (lo+i)) where
 go:=λi H hi e=>hi;stop:=λH e=>On _;yld:=λi H x H' hi e q=>by
  obtain⟨rfl,q⟩:=q;exact⟨ae.refl _,q⟩
theorem wU(h:ao K H1 a xs)(h2:ao K H1 b ys)(hn:n=min xs.length ys.length):
  fi (uW K a b) H1 n (λi v H=>∃ T x y,v=.ref T/\H T=some (.tup [x,y])/\xs[i]?=some x/\ys[i]?=some y) where
 go:=λi H hi e=>⟨xs,ys,xs[i]'(by omega),ys[i]'(by omega),e.seq h,e.seq h2,by simp,by simp⟩;stop:=λH e=>⟨xs,ys,e.seq h,e.seq h2,by
  rcases Nat.le_total xs.length ys.length with z|z
  ·exact .inl (by simp;omega)
  ·exact .inr (by simp;omega)⟩
 yld:=λi H x H' hi e q=>by
  obtain⟨T,nT,rfl,q⟩:=q;have i1:i<xs.length:=by omega
  have i2:i<ys.length:=by omega
  have:=q xs ys xs[i] ys[i] (e.seq h) (e.seq h2) (by simp) (by simp);subst this;exact⟨ax nT _,T,_,_,rfl,aq,by simp,by simp⟩
theorem J1(h:ao K H1 a xs):
  fi (sI K a) H1 xs.length (λi v H=>∃ T x,v=.ref T/\H T=some (.tup [.int i,x])/\xs[i]?=some x) where
 go:=λi H hi e=>⟨xs,xs[i],e.seq h,by simp[hi]⟩;stop:=λH e=>⟨xs,e.seq h,On _⟩;yld:=λi H x H' hi e q=>by
  obtain⟨T,nT,rfl,q⟩:=q;have:=q xs xs[i] (e.seq h) (by simp);subst this;exact⟨ax nT _,T,_,rfl,aq,by simp⟩
def pe (J:It)(g:TG)(tt:TT)(te:TE)(σ0:St)(H1:Hp)(Q:VK):Prop:=∀ D,H1 D=none->
 ∃ W:Nat->Nat->Ry->Hp->Prop,(∃ m,W 0 m [] (upd H1 D (.lst [])))/\∀ i m ys H,W i m ys H->H D=some (.lst ys)/\
  ((J.stop i H/\Q (.ref D) H)\/(J.go i H/\ys.length<sizeLine/\∃ N:Ry->Hp->Prop,(∀ ys' H',N ys' H'->∃ m',m'<m/\W (i+1) m' ys' H')/\
   ∀ x H',J.yld i H x H'->g x σ0 H' λσ2 H2=>tt σ2 H2 λb H3=>if b=true then te σ2 H3 λy H4=>H4 D=some (.lst ys)/\N (ys++[y]) (upd H4 D (.lst (ys++[y])))else N ys H3))
def oV (J:It)(g:TG)(tb:TS)(D:bG)(σ:St)(H1:Hp):Prop:=∃ W:Nat->Nat->St->Hp->Prop,(∃ m,W 0 m σ H1)/\∀ i m σ H,W i m σ H->
 (J.stop i H/\D.nx σ H)\/(J.go i H/\∃ N:St->Hp->Prop,(∀ σ' H',N σ' H'->∃ m',m'<m/\W (i+1) m' σ' H')/\∀ x H',J.yld i H x H'->g x σ H' λσ2 H2=>tb {D with nx:=N,ct:=N,bk:=D.nx} σ2 H2)
variable {J:It}{σ0:St}
theorem cG{P:Nat->V->Hp->Prop}(wk:fi J H1 n P)(ds:List D)(hn:ds.length=n)(hz:n<=sizeLine)(step:∀ i x d H' (R:VK),i<n->ds[i]?=some d->ae H1 H'->P i x H'->(∀ y H3,ae H' H3->ak H' H3 d y->R y H3)->g x σ0 H' λσ2 H2=>te σ2 H2 R)(fin:∀ v H',ae H1 H'->ak H1 H' (.lst ds) v->Q v H'):
  pe J g nC te σ0 H1 Q:=by
 intro Da hD;nomatch λi m ys H=>m=n - i/\i<=n/\ae H1 H/\H Da=some (.lst ys)/\∃ fp,aj H (ds.take i) ys fp/\fp.Nodup/\Da∉fp/\∀ b∈fp,H1 b=none,⟨n,rfl,O2 _,ax hD _,aq,[],?_,OX,by simp,λ_ m=>by cases m⟩
 ·rw[List.take_zero];unfold aj;exact⟨rfl,rfl⟩
 rintro i m ys H ⟨rfl,hi,hs,hH,fp,hr,nd,na,hf⟩;nomatch hH;have hl:=hr.length;rw[O0]at hl;by_cases hlt:i<n
 ·refine .inr ⟨wk.go i H hlt hs,by omega,λys' H'=>(n - (i+1)<n - i/\i+1<=n/\ae H1 H'/\H' Da=some (.lst ys')/\∃ fp,aj H' (ds.take (i+1)) ys' fp/\fp.Nodup/\Da∉fp/\∀ b∈fp,H1 b=none),λys' H' ⟨q1,q2,q3,q4,q5⟩=>⟨n - (i+1),q1,rfl,q2,q3,q4,q5⟩,λx H' hy=>?_⟩;obtain⟨s1,hp⟩:=wk.yld i H x H' hlt hs hy;have hi':i<ds.length:=by omega
  refine step i x ds[i] H' _ hlt (by simp) (hs.trans s1) hp λy H3 s3 hn3=>?_;have hD3:H3 Da=some (.lst ys):=s3 _ _ (s1 _ _ hH);nomatch hD3,by omega,hlt,?_,aq
  ·intro b o e;rw[aC (cj e hD)];exact s3 _ _ (s1 _ _ (hs _ _ e))
  ·obtain⟨fq,h1,h2,h3⟩:=hn3;have keep:∀ b∈fp,(upd H3 Da (.lst (ys++[y]))) b=H b:=λb hb=>by obtain⟨o,ho⟩:=aj.has _ hr b hb;rw[aC (show b≠Da from λz=>na (by rw[<-z];exact hb)),ho];exact s3 _ _ (s1 _ _ ho)
   have nDq:Da∉fq:=λz=>by have:=h3 Da z;rw[s1 _ _ hH]at this;cases this
   have tk2:ci H3 (upd H3 Da (.lst (ys++[y]))):=kM hD3;have tk1:ci H (upd H3 Da (.lst (ys++[y]))):=((s1.trans s3).tups).trans tk2;have keep2:∀ b∈fq,(upd H3 Da (.lst (ys++[y]))) b=H3 b:=λb hb=>by rw[aC (show b≠Da from λz=>nDq (by rw[<-z];exact hb))]
   nomatch fp++fq,?_,?_,?_
   ·have:=(aj.frame tk1 _ keep hr).snoc (ai.frame tk2 _ keep2 h1);rw[O5,show ds[i]?.toList=[ds[i]]by simp[hi']];exact this
   ·refine O3.mpr ⟨nd,h2,λa ha b hb z=>?_⟩;subst z;obtain⟨o,ho⟩:=aj.has _ hr a ha;have:=h3 a hb;rw[s1 _ _ ho]at this;cases this
   ·exact λz=>(bW.mp z).elim na nDq
   ·intro b hb;rcases bW.mp hb with z|z
    ·exact hf b z
    ·exact(hs.trans s1).free (h3 b z)
 ·have e:i=n:=by omega
  subst e;refine .inl ⟨wk.stop H hs,fin _ _ hs ?_⟩;rw[Oy (by omega)]at hr;exact ak.lst hr nd hf hD na hH
theorem J0{P:Nat->V->Hp->Prop}(wk:fi J H1 n P)(k:Nat->Bool)(d:Nat->D)(hz:n<=sizeLine)(step:∀ i x H' (R1:VK) (R2:Hp->Prop),i<n->ae H1 H'->P i x H'->(k i=true->∀ y H3,ae H' H3->ak H' H3 (d i) y->R1 y H3)->(k i=false->∀ H3,ae H' H3->R2 H3)->
   g x σ0 H' λσ2 H2=>tt σ2 H2 λb H3=>if b=true then te σ2 H3 R1 else R2 H3)(fin:∀ v H',ae H1 H'->ak H1 H' (.lst (((RD n).filter k).map d)) v->Q v H'):
  pe J g tt te σ0 H1 Q:=by
 intro Da hD;nomatch λi m ys H=>m=n - i/\i<=n/\ae H1 H/\H Da=some (.lst ys)/\∃ fp,aj H (((RD i).filter k).map d) ys fp/\fp.Nodup/\Da∉fp/\∀ b∈fp,H1 b=none,⟨n,rfl,O2 _,ax hD _,aq,[],?_,OX,by simp,λ_ m=>by cases m⟩
 ·simp only[List.range_zero,List.filter_nil,O6];unfold aj;exact⟨rfl,rfl⟩
 rintro i m ys H ⟨rfl,hi,hs,hH,fp,hr,nd,na,hf⟩;nomatch hH;have hl:=hr.length;have hl2:((RD i).filter k).length<=i:=by have:=List.length_filter_le k (RD i);rwa [Pj]at this
 rw[aT]at hl;by_cases hlt:i<n
 ·refine .inr ⟨wk.go i H hlt hs,by omega,λys' H'=>(n - (i+1)<n - i/\i+1<=n/\ae H1 H'/\H' Da=some (.lst ys')/\∃ fp,aj H' (((RD (i+1)).filter k).map d) ys' fp/\fp.Nodup/\Da∉fp/\∀ b∈fp,H1 b=none),λys' H' ⟨q1,q2,q3,q4,q5⟩=>⟨n - (i+1),q1,rfl,q2,q3,q4,q5⟩,λx H' hy=>?_⟩;obtain⟨s1,hp⟩:=wk.yld i H x H' hlt hs hy;refine step i x H' _ _ hlt (hs.trans s1) hp (λhk y H3 s3 hn3=>?_) (λhk H3 s3=>?_)
  ·have hD3:H3 Da=some (.lst ys):=s3 _ _ (s1 _ _ hH);nomatch hD3,by omega,hlt,?_,aq
   ·intro b o e;rw[aC (cj e hD)];exact s3 _ _ (s1 _ _ (hs _ _ e))
   ·obtain⟨fq,h1,h2,h3⟩:=hn3;have keep:∀ b∈fp,(upd H3 Da (.lst (ys++[y]))) b=H b:=λb hb=>by obtain⟨o,ho⟩:=aj.has _ hr b hb;rw[aC (show b≠Da from λz=>na (by rw[<-z];exact hb)),ho];exact s3 _ _ (s1 _ _ ho)
    have nDq:Da∉fq:=λz=>by have:=h3 Da z;rw[s1 _ _ hH]at this;cases this
    have tk2:ci H3 (upd H3 Da (.lst (ys++[y]))):=kM hD3;have tk1:ci H (upd H3 Da (.lst (ys++[y]))):=((s1.trans s3).tups).trans tk2;have keep2:∀ b∈fq,(upd H3 Da (.lst (ys++[y]))) b=H3 b:=λb hb=>by rw[aC (show b≠Da from λz=>nDq (by rw[<-z];exact hb))]
    nomatch fp++fq,?_,?_,?_
    ·have:=(aj.frame tk1 _ keep hr).snoc (ai.frame tk2 _ keep2 h1);rw[Pi,List.filter_append,OF,Pc,hk];exact this
    ·refine O3.mpr ⟨nd,h2,λa ha b hb z=>?_⟩;subst z;obtain⟨o,ho⟩:=aj.has _ hr a ha;have:=h3 a hb;rw[s1 _ _ ho]at this;cases this
    ·exact λz=>(bW.mp z).elim na nDq
    ·intro b hb;rcases bW.mp hb with z|z
     ·exact hf b z
     ·exact(hs.trans s1).free (h3 b z)
  ·refine⟨by omega,hlt,hs.trans (s1.trans s3),s3 _ _ (s1 _ _ hH),fp,?_,nd,na,hf⟩;rw[Pi,List.filter_append,OF,Pc,hk];simp only[Bool.false_eq_true,if_false,List.filter_nil,O6,OP];refine aj.frame (s1.trans s3).tups _ (λb hb=>?_) hr;obtain⟨o,ho⟩:=aj.has _ hr b hb;rw[ho];exact s3 _ _ (s1 _ _ ho)
 ·have e:i=n:=by omega
  subst e;exact .inl ⟨wk.stop H hs,fin _ _ hs (ak.lst hr nd hf hD na hH)⟩
variable {tb:TS}
theorem oh{P:Nat->V->Hp->Prop}{D:bG}(wk:fi J H1 n P)(Pv:Nat->St->Hp->Prop)(h0:Pv 0 σ H1)(hl:∀ i σ H,Pv i σ H->ae H1 H)(hs:∀ i x σ H H',i<n->Pv i σ H->ae H H'->P i x H'->g x σ H' λσ2 H2=>tb {D with nx:=Pv (i+1),ct:=Pv (i+1),bk:=D.nx} σ2 H2)(hd:∀ σ H,Pv n σ H->D.nx σ H):
  oV J g tb D σ H1:=by
 nomatch λi m σ H=>m=n - i/\i<=n/\Pv i σ H,⟨n,by simp,O2 _,h0⟩;rintro i m σ H ⟨rfl,hi,p⟩;have e:=hl i σ H p;by_cases hlt:i<n
 ·refine .inr ⟨wk.go i H hlt e,Pv (i+1),λσ' H' p'=>⟨n - (i+1),by omega,rfl,hlt,p'⟩,λx H' y=>?_⟩;obtain⟨s1,hp⟩:=wk.yld i H x H' hlt e y;exact hs i x σ H H' hlt p s1 hp
 ·have e':i=n:=by omega
  subst e';exact .inl ⟨wk.stop H e,hd σ H p⟩
inductive E3 {α1 α2 α3:Type}(p:α1->α2->α3->Prop):Prop|mk (a1:α1) (a2:α2) (a3:α3) (h:p a1 a2 a3):E3 p
inductive E4 {α1 α2 α3 α4:Type}(p:α1->α2->α3->α4->Prop):Prop|mk (a1:α1) (a2:α2) (a3:α3) (a4:α4) (h:p a1 a2 a3 a4):E4 p
inductive E5 {α1 α2 α3 α4 α5:Type}(p:α1->α2->α3->α4->α5->Prop):Prop|mk (a1:α1) (a2:α2) (a3:α3) (a4:α4) (a5:α5) (h:p a1 a2 a3 a4 a5):E5 p
inductive E6 {α1 α2 α3 α4 α5 α6:Type}(p:α1->α2->α3->α4->α5->α6->Prop):Prop|mk (a1:α1) (a2:α2) (a3:α3) (a4:α4) (a5:α5) (a6:α6) (h:p a1 a2 a3 a4 a5 a6):E6 p
inductive E7 {α1 α2 α3 α4 α5 α6 α7:Type}(p:α1->α2->α3->α4->α5->α6->α7->Prop):Prop|mk (a1:α1) (a2:α2) (a3:α3) (a4:α4) (a5:α5) (a6:α6) (a7:α7) (h:p a1 a2 a3 a4 a5 a6 a7):E7 p
inductive A3 (p1 p2 p3:Prop):Prop|mk (h1:p1) (h2:p2) (h3:p3):A3 p1 p2 p3
inductive A4 (p1 p2 p3 p4:Prop):Prop|mk (h1:p1) (h2:p2) (h3:p3) (h4:p4):A4 p1 p2 p3 p4
inductive A5 (p1 p2 p3 p4 p5:Prop):Prop|mk (h1:p1) (h2:p2) (h3:p3) (h4:p4) (h5:p5):A5 p1 p2 p3 p4 p5
inductive A6 (p1 p2 p3 p4 p5 p6:Prop):Prop|mk (h1:p1) (h2:p2) (h3:p3) (h4:p4) (h5:p5) (h6:p6):A6 p1 p2 p3 p4 p5 p6
inductive A7 (p1 p2 p3 p4 p5 p6 p7:Prop):Prop|mk (h1:p1) (h2:p2) (h3:p3) (h4:p4) (h5:p5) (h6:p6) (h7:p7):A7 p1 p2 p3 p4 p5 p6 p7
inductive A8 (p1 p2 p3 p4 p5 p6 p7 p8:Prop):Prop|mk (h1:p1) (h2:p2) (h3:p3) (h4:p4) (h5:p5) (h6:p6) (h7:p7) (h8:p8):A8 p1 p2 p3 p4 p5 p6 p7 p8
inductive A9 (p1 p2 p3 p4 p5 p6 p7 p8 p9:Prop):Prop|mk (h1:p1) (h2:p2) (h3:p3) (h4:p4) (h5:p5) (h6:p6) (h7:p7) (h8:p8) (h9:p9):A9 p1 p2 p3 p4 p5 p6 p7 p8 p9
inductive FK (p1 p2 p3 p4 p5 p6 p7 p8 p9 p10:Prop):Prop|mk (h1:p1) (h2:p2) (h3:p3) (h4:p4) (h5:p5) (h6:p6) (h7:p7) (h8:p8) (h9:p9) (h10:p10):FK p1 p2 p3 p4 p5 p6 p7 p8 p9 p10
structure Fn (P:RP)(w:R3)(K:Fg)(mg:Str->Option be)(base:RW)(x:Str)(ps:List Str)(k:Nat)(sp:Sp):Prop where
 ex:∃ f fd,ce P w K mg base bH k f fd ps sp/\f_ K fd ps []/\RU K (.ref f)=true/\mg x=some (.ref f)
variable {e:Expr}{es:List Expr}
section
variable {k j:Nat}{ps:List Str}{t:TA}
theorem qH (G:Fn X.prog X.w X.K X.mg X.base x ps j sp)(hr:aS k X.A)(hg:Gl X x)(ha:PA X (e::es) t)(hj:↥(j<=k))(hdb:↥((x==("__debug__":Str))=false))
  (he:⇑(RE (e::es) X.env=(false,RS e X.env)::RE es X.env)) (hpl:⇑((RZ pos (RE es X.env)).any (·.1)=false)):PE X (.Call (.Name x p) (e::es) [] pos) (nH sp [] E0 t):=by obtain⟨f,fd,F,hb,hk,hm⟩:=G.ex;exact Dc (F.mono hj) hr hg hm hk hb .nil bZ ha hdb he hpl
end
theorem Fn.of{f:Q2}{ps:List Str}{k:Nat}(F:aN K x x st f fd)(S:aQ N ps (aI st))(m:mg x=some (.ref f))(hb:∀(kV doc pm:be) (an:Option Q2) (cdv ct:be) (us:List be),us.length=ps.length->bindArgs (Sr x x (jV st) (gE st) (aI st) .none kV doc pm an cdv ct) ⟨us,[]⟩=So (ps.zip us))(len:∀ vs H Q E,sp vs H Q E->vs.length=ps.length)(hbody:∀(cdv:be) (A:Sn) (outer:List Env) (s:RC) (H:Hp) (vs:Ry) (Q:VK) (E:XK),aS k (A.deeper (envOfC x (aI st) s.heap.objs.size f cdv))->sp vs H Q E->
   ∃ t,fh (bT bH P w K mg base N x (aI st) f cdv A outer s H E).nox (gE st) t/\t {nx:=λ_ H'=>Q .non H',rt:=Q} (start N vs) H):Fn P w K mg base x ps (k+1) sp:=⟨f,fd,F.ok S len hbody,F.binds hb,F.kp,m⟩
section
variable {k:Nat}
def nA (K:Fg):R2:=λx y H Q=>j6 (λi j=>.int (i+j)) x y H Q\/qG x y H Q\/BH K x y H Q
theorem Ik:cf X (Sh .Add) (nA X.K):=Hl.or (HB.or HI)
def Co:R2:=λx y H Q=>rI fY (λi j=>.int (i*j)) x y H Q\/qw x y H Q
theorem h_:cf X (Sh .Mult) Co:=Hk.or HA
def gM (K:Fg):R2:=λx y H Q=>FF x y H Q\/kQ K false x y H Q
def je (K:Fg):R2:=λx y H Q=>FE x y H Q\/kQ K true x y H Q
theorem Gc (hr:aS k X.A):cf X (RO .Eq) (gM X.K):=qL.or (Ge hr)
theorem Gb (hr:aS k X.A):cf X (RO .NotEq) (je X.K):=qK.or (Gd hr)
end
def mM (K:Fg):Ry->Hp->VK->Prop:=λxs H Q=>∃ p ys,xs=[.ref p]/\(ao K H p ys\/aB K H p ys)/\Q (.int ys.length) H
def v7 (K:Fg):Ry->Hp->VK->Prop:=λxs H Q=>∃ p ys,xs=[.ref p]/\(ao K H p ys\/aB K H p ys)/\∀ l,H l=none->Q (.ref l) (upd H l (.lst ys))
def vI (K:Fg):Ry->Hp->VK->Prop:=λxs H Q=>∃ p ys,xs=[.ref p]/\((ao K H p ys/\∀ l,H l=none->Q (.ref l) (upd H l (.tup ys)))\/(aB K H p ys/\Q (.ref p) H))
def mP (K:Fg):Ry->Hp->VK->Prop:=λxs H Q=>∃ x c t b,xs=[x,.ty c]/\dj K H x t/\PySem.W.kitOne K t (.type c)=some b/\Q (.bl b) H
def mR (K:Fg):Ry->Hp->VK->Prop:=λxs H Q=>∃(p:Q2) (bs:List Bool),xs=[.ref p]/\ao K H p (bs.map V.bl)/\Q (.bl (bs.all id)) H
def mQ (K:Fg):Ry->Hp->VK->Prop:=λxs H Q=>∃(p:Q2) (bs:List Bool),xs=[.ref p]/\ao K H p (bs.map V.bl)/\Q (.bl (bs.any id)) H
def qA:Ry->Hp->VK->Prop:=λxs H Q=>∃ i j,xs=[.int i,.int j]/\Q (.int (if j>i then j else i)) H
def qz:Ry->Hp->VK->Prop:=λxs H Q=>∃ i j,xs=[.int i,.int j]/\Q (.int (if j<i then j else i)) H
def qF:Ry->Hp->VK->Prop:=λxs H Q=>(∃ i,xs=[.int i]/\Q (.int i) H)\/∃ k,xs=[.bl k]/\Q (.int (if k then 1 else 0)) H
section
theorem r_:dC X (.builtin "len") (mM X.K):=MH
theorem Ga:dC X (.type "list") (v7 X.K):=MG
theorem Ij:dC X (.type "tuple") (vI X.K):=MN
theorem se:dC X (.builtin "isinstance") (mP X.K):=LE
theorem si (hc:X.calm=true):dC X (.builtin "all") (mR X.K):=Jx hc
theorem sh (hc:X.calm=true):dC X (.builtin "any") (mQ X.K):=Jw hc
theorem vv (hc:X.calm=true):dC X (.builtin "max") qA:=K0 hc
theorem rZ (hc:X.calm=true):dC X (.builtin "min") qz:=KZ hc
theorem sg:dC X (.type "int") qF:=Lg
end
variable {c:TT}{ta tc:TE}{r:R2}{j:Int}{α:Type}
section
variable {tb:TE}{D:bG}
theorem Bs{i:Nat}(h:σ[i]?=some (some v))(q:Q v H):ja i σ H Q:=⟨v,h,q⟩
theorem N3(q:Q v H):tC v σ H Q:=q
theorem zG(h:ta σ H λx H1=>tb σ H1 λy H2=>r x y H2 Q):iu r ta tb σ H Q:=h
theorem zB {r:V->Hp->VK->Prop}(h:ta σ H λx H1=>r x H1 Q):Fx r ta σ H Q:=h
theorem rc{g:Int->Int->V}(q:Q (g i j) H):j6 g (.int i) (.int j) H Q:=⟨i,j,rfl,rfl,q⟩
theorem rp(c:0<j)(q:Q (.int (i%j)) H):rI (λ_ j=>0<j) (λi j=>.int (i%j)) (.int i) (.int j) H Q:=⟨i,j,rfl,rfl,c,q⟩
theorem JZ (q:Q (.int 1000000000) H):rI sN (λi j=>.int (i ^ j.toNat)) (.int 10) (.int 9) H Q:=⟨10,9,rfl,rfl,⟨by decide,by decide,by decide⟩,q⟩
theorem F_(c:0<j)(c2:j<1073741824)(q:Q (.int (i/j)) H):rI sO (λi j=>.int (i/j)) (.int i) (.int j) H Q:=⟨i,j,rfl,rfl,⟨c,c2⟩,q⟩
theorem zE{g:Int->V}(q:Q (g i) H):rU g (.int i) H Q:=⟨i,rfl,q⟩
theorem Ii(q:Q (.int (i+j)) H):nA K (.int i) (.int j) H Q:=.inl ⟨i,j,rfl,rfl,q⟩
theorem dW(h1:H a=some (.lst xs))(h2:H b=some (.lst ys))(z:xs.length+ys.length<=sizeLine)(q:∀ p,H p=none->Q (.ref p) (upd H p (.lst (xs++ys)))):nA K (.ref a) (.ref b) H Q:=.inr (.inl ⟨a,b,xs,ys,rfl,rfl,h1,h2,z,q⟩)
theorem wR(c:fY i j)(q:Q (.int (i*j)) H):Co (.int i) (.int j) H Q:=.inl ⟨i,j,rfl,rfl,c,q⟩
theorem Br(q:Q (.bl (decide (i=j))) H):gM K (.int i) (.int j) H Q:=.inl ⟨rfl,by rw[show decide (V.int i=V.int j)=decide (i=j)by rw[decide_eq_decide];exact⟨λz=>by cases z;rfl,λz=>by rw[z]⟩];exact q⟩
theorem rh(q:Q (.bl (!decide (i=j))) H):je K (.int i) (.int j) H Q:=.inl ⟨rfl,by rw[show decide (V.int i=V.int j)=decide (i=j)by rw[decide_eq_decide];exact⟨λz=>by cases z;rfl,λz=>by rw[z]⟩];exact q⟩
theorem rF {i j:Str}(q:Q (.bl (decide (i=j))) H):gM K (.str i) (.str j) H Q:=.inl ⟨rfl,by rw[show decide (V.str i=V.str j)=decide (i=j)by rw[decide_eq_decide];exact⟨λz=>by cases z;rfl,λz=>by rw[z]⟩];exact q⟩
variable {d e:L2.D}
theorem vt(h1:al K H d (.ref a))(h2:al K H e (.ref b))(n:dg d<=60)(q:Q (.bl (aO d e)) H):gM K (.ref a) (.ref b) H Q:=.inr ⟨a,b,d,e,rfl,rfl,h1,h2,n,q⟩
theorem rj(h1:al K H d (.ref a))(h2:al K H e (.ref b))(n:dg d<=60)(q:Q (.bl (!aO d e)) H):je K (.ref a) (.ref b) H Q:=.inr ⟨a,b,d,e,rfl,rfl,h1,h2,n,q⟩
theorem F0 {Q:Bool->Hp->Prop}(h:ta σ H λx H'=>∃ k,x=.bl k/\Q k H'):oX ta σ H Q:=h
theorem N4 {Q:Bool->Hp->Prop}(h:ta σ H λx H'=>∃ k,x=.bl k/\Q k H'):tB ta σ H Q:=h
theorem zK {P:Bool->Prop}{b:Bool}(h:P b):∃ k,V.bl b=.bl k/\P k:=⟨b,rfl,h⟩
theorem rg {Q:Ry->Hp->Prop}(h:Q [] H):gK σ H Q:=h
theorem FZ {Q:Ry->Hp->Prop}{tr:TA}(h:ta σ H λx H1=>tr σ H1 λxs H2=>Q (x::xs) H2):eJ ta tr σ H Q:=h
theorem FY{t:TA}(h:t σ H λvs H1=>sp vs H1 Q E0):nH sp [] E0 t σ H Q:=by
 have e:(λ(vs:Ry) (H1:Hp)=>sp (vs++[]) H1 Q E0)=λvs H1=>sp vs H1 Q E0:=by funext vs H1;rw[OP]
 show t σ H λvs H1=>sp (vs++[]) H1 Q E0;rw[e];exact h
theorem zL {r:Ry->Hp->VK->Prop}{t:TA}(h:t σ H λvs H1=>r vs H1 Q):zt r t σ H Q:=h
theorem rA {t:TA}(h:t σ H λxs H1=>xs.length<=sizeLine/\∀ p,H1 p=none->Q (.ref p) (upd H1 p (.lst xs))):mL t σ H Q:=h
theorem qZ {t:TA}(h:t σ H λxs H1=>xs.length<=sizeLine/\∀ p,H1 p=none->Q (.ref p) (upd H1 p (.tup xs))):qb t σ H Q:=h
theorem rJ(h:ta σ H λx H1=>g x σ H1 D.nx):iw ta g D σ H:=h
theorem Ih{i:Nat}{Q:St->Hp->Prop}(h:Q (σ.set i (some v)) H):mh i v σ H Q:=h
theorem rb (h:ta σ H D.rt):gJ ta D σ H:=h
theorem FX (h:ta σ H λ_ H1=>D.nx σ H1):vm ta D σ H:=h
theorem FW (h:D.nx σ H):sS D σ H:=h
theorem zH(h:c σ H λb H1=>if b=true then ta σ H1 Q else tb σ H1 Q):FA c ta tb σ H Q:=h
theorem dF(h:ao K H a xs\/aB K H a xs)(q:Q (.int xs.length) H):mM K [.ref a] H Q:=⟨a,xs,rfl,h,q⟩
theorem N2{x:α}{xs:List α}:gO (x::xs).length 0=some 0:=by unfold gO;rw[Ol (Int.le_refl 0),Ol (by rw[OC];omega)];rfl
theorem db{x:α}{xs:List α}:fg (x::xs) (0:Int)=some x:=bi (j:=0) rfl
theorem bK(h:ao K H a xs)(e:fg xs i=some v)(q:Q v H):mO K (.ref a) (.int i) H Q:=.inl ⟨a,xs,i,v,rfl,rfl,h,e,q⟩
theorem aP(h:aB K H a xs)(e:fg xs i=some v)(q:Q v H):mO K (.ref a) (.int i) H Q:=.inr (.inl ⟨a,xs,i,v,rfl,rfl,h,e,q⟩)
end
variable {R:It->Hp->Prop}{tl to:TE}
section
variable {tb:TE}{D:bG}
variable {p:Q2}
theorem km{bs:List Bool}(h:ao K H p (bs.map V.bl))(q:Q (.bl (bs.all id)) H):mR K [.ref p] H Q:=⟨p,bs,rfl,h,q⟩
theorem rK{bs:List Bool}(h:ao K H p (bs.map V.bl))(q:Q (.bl (bs.any id)) H):mQ K [.ref p] H Q:=⟨p,bs,rfl,h,q⟩
theorem vq(q:Q (.int (if j>i then j else i)) H):qA [.int i,.int j] H Q:=⟨i,j,rfl,q⟩
theorem rq(q:Q (.int (if j<i then j else i)) H):qz [.int i,.int j] H Q:=⟨i,j,rfl,q⟩
variable {b:Bool}
theorem FV(q:Q (.int (if b then 1 else 0)) H):qF [.bl b] H Q:=.inr ⟨b,rfl,q⟩
theorem FU (h:ta σ H λx H1=>∃ c,x=.bl c/\if c=true then tb σ H1 Q else Q (.bl false) H1):BN ta tb σ H Q:=h
variable {u:TT}
theorem rL{t:TT}{Q:Bool->Hp->Prop}(h:t σ H λc H1=>if c=true then u σ H1 Q else Q false H1):ql t u σ H Q:=h
theorem zF{t:TT}{Q:Bool->Hp->Prop}(h:t σ H λc H1=>if c=true then Q true H1 else u σ H1 Q):Fz t u σ H Q:=h
theorem rf {t:TT}{Q:Bool->Hp->Prop}(h:t σ H λc H1=>Q (!c) H1):qg t σ H Q:=h
theorem sV{x:V}{t:be}{c:String}(ty:dj K H x t)(e:PySem.W.kitOne K t (.type c)=some b)(q:Q (.bl b) H):
  mP K [x,.ty c] H Q:=⟨x,c,t,b,rfl,ty,e,q⟩
theorem rD{tb:TS}(h:wi σ H λJ H1=>oV J g tb D σ H1):qi wi g tb D σ H:=h
theorem FT(h:wi σ H λJ H1=>pe J g tt te (eQ ms σ) H1 Q):nB ms wi g tt te σ H Q:=h
theorem Ig(h:tl σ H λx H1=>∃ a,x=.ref a/\(∃ xs,ao K H1 a xs)/\R (lg K a) H1):vj K tl σ H R:=h
theorem FS(h:tl σ H λx H1=>∃ a,x=.ref a/\(∃ xs,aB K H1 a xs)/\R (uX K a) H1):mU K tl σ H R:=h
theorem qY{t:TA}(h:t σ H λvs H1=>∃ a b,vs=[.ref a,.ref b]/\(∃ xs,ao K H1 a xs)/\(∃ ys,ao K H1 b ys)/\R (uW K a b) H1):mT K t σ H R:=h
theorem FR{t:TA}(h:t σ H λvs H1=>∃ a xs,vs=[.ref a]/\H1 a=some (.lst xs)/\R (sI K a) H1):vw K t σ H R:=h
theorem FP{t:TA}(h:t σ H λvs H1=>∃ j:Int,vs=[.int j]/\-(2 ^ 62)<=j/\j<2 ^ 62/\R (k_ 0 j.toNat) H1):BL t σ H R:=h
variable {P:Int->Prop}
theorem hJ(h1:-(2 ^ 62)<=j)(h2:j<2 ^ 62)(h:P j):∃ k:Int,[V.int j]=[.int k]/\-(2 ^ 62)<=k/\k<2 ^ 62/\P k:=⟨j,rfl,h1,h2,h⟩
theorem zC {r:V->Option Int->Option Int->Hp->VK->Prop}{tl th:TO}(h:ta σ H λx H1=>tl σ H1 λl H2=>th σ H2 λu H3=>r x l u H3 Q):Fy r ta tl th σ H Q:=h
theorem JY {Q:Option Int->Hp->Prop}(h:Q none H):C9 σ H Q:=h
theorem FO {Q:Option Int->Hp->Prop}(h:ta σ H λx H1=>∃ i,x=.int i/\Q (some i) H1):BI ta σ H Q:=h
theorem Ie(h:P i):∃ j,V.int i=.int j/\P j:=⟨i,rfl,h⟩
variable {j:Nat}
theorem re{i:Nat}{t:TA}(h:t σ H λvs H1=>∃ v w,vs=[v,w]/\D.nx ((σ.set i (some v)).set j (some w)) H1):qf i j t D σ H:=h
theorem FN{P:V->V->Prop}{w:V}(h:P v w):∃ v' w',[v,w]=[v',w']/\P v' w':=⟨v,w,rfl,h⟩
theorem FM{ti:TE}{t:kX}{Q:St->Hp->Prop}(h:to σ H λo H1=>ti σ H1 λi H2=>t o i v H2 λH3=>Q σ H3):rO to ti t v σ H Q:=h
theorem nP{k:Int}{Q:Hp->Prop}(h:H a=some (.lst xs))(e:gO xs.length k=some j)(q:Q (upd H a (.lst (xs.set j v)))):BS (.ref a) (.int k) v H Q:=⟨a,xs,k,j,rfl,rfl,h,e,q⟩
theorem tT(h:ao K H a ys\/aB K H a ys)(q:∀ l,H l=none->Q (.ref l) (upd H l (.lst ys))):
  v7 K [.ref a] H Q:=⟨a,ys,rfl,h,q⟩
end
variable {kk:Nat}
section
variable {k:Nat}
theorem tf (K:Fg)(hK:⇑(X.K=K)):cf X (Sh .Add) (nA K):=by subst hK;exact Ik
theorem qV (K:Fg)(hr:aS k X.A)(hK:⇑(X.K=K)):cf X (RO .Eq) (gM K):=by subst hK;exact Gc hr
theorem iz (K:Fg)(hr:aS k X.A)(hK:⇑(X.K=K)):cf X (RO .NotEq) (je K):=by subst hK;exact Gb hr
theorem mS (K:Fg)(hK:⇑(X.K=K)):cf X (RO .In) (uH K false):=by subst hK;exact Kh
theorem iA (K:Fg)(hK:⇑(X.K=K)):jy X (mO K):=by subst hK;exact HC
def FD (K:Fg):V->Option Int->Option Int->Hp->VK->Prop:=λx lo hi H Q=>qv K x lo hi H Q\/qu K x lo hi H Q
theorem eE (K:Fg)(hK:⇑(X.K=K)):lV X (FD K):=by subst hK;exact HG.or Hg
theorem dw (K:Fg)(hK:⇑(X.K=K)):dC X (.builtin "len") (mM K):=by subst hK;exact r_
theorem s_ (K:Fg)(hK:⇑(X.K=K)):dC X (.type "list") (v7 K):=by subst hK;exact Ga
theorem Id (K:Fg)(hK:⇑(X.K=K)):dC X (.type "tuple") (vI K):=by subst hK;exact Ij
theorem qU (K:Fg)(hK:⇑(X.K=K)):dC X (.builtin "isinstance") (mP K):=by subst hK;exact se
theorem kj (K:Fg)(hc:X.calm=true)(hK:⇑(X.K=K)):dC X (.builtin "all") (mR K):=by subst hK;exact si hc
theorem BB (K:Fg)(hc:X.calm=true)(hK:⇑(X.K=K)):dC X (.builtin "any") (mQ K):=by subst hK;exact sh hc
variable {l:Expr}
theorem c_(K:Fg)(hl:PE X l tl)(hK:⇑(X.K=K)):PI X tg l (vj K tl):=by subst hK;exact HR hl
theorem pd(K:Fg)(hl:PE X l tl)(hK:⇑(X.K=K)):PI X tg l (mU K tl):=by subst hK;exact Hm hl
variable {a:Expr}{ta:TA}
theorem vH(K:Fg){b:Expr}(hg:Gl X "zip")(hm:X.mg "zip"=none)(ha:PA X [a,b] ta)(hK:⇑(X.K=K))(hs:⇑(RE [a,b] X.env=[(false,RS a X.env),(false,RS b X.env)]))(hs2:⇑(RE [b] X.env=[(false,RS b X.env)])):
  PI X (.Tuple elts kx tpos) (.Call (.Name "zip" p) [a,b] [] pos) (mT K ta):=by subst hK;exact Gg hg hm ha hs hs2
theorem v6(K:Fg)(hg:Gl X "enumerate")(hm:X.mg "enumerate"=none)(ha:PA X [a] ta)(hK:⇑(X.K=K))(hs:⇑(RE [a] X.env=[(false,RS a X.env)])):
  PI X (.Tuple elts kx tpos) (.Call (.Name "enumerate" p) [a] [] pos) (vw K ta):=by subst hK;exact Il hg hm ha hs
theorem mv(K:Fg){t:ju}(hc:X.calm=true)(h:m6 X es t)(hK:⇑(X.K=K))(hn:⇑((R9 es X.env).length=n))(hst:⇑((R9 es X.env).findIdx? (·.1)=none)):
  PG X (.Tuple es kk pos) (rN K n t):=by subst hK;exact Hr hc h hn hst
theorem lm(K:Fg){f:Str}{ta:TE}(he:PE X e ta)(hb:attributeBase e f X.env (RS e X.env)=RS e X.env)(hK:⇑(X.K=K)):PE X (.Attribute e f pos) (kP K ta f):=by subst hK;exact Hi he hb
end
theorem oF{f:Nat->D}{i:Nat}(h:((RD n).map f)[i]?=some d):d=f i:=by rw[aM]at h;obtain⟨j,hj,rfl⟩:=bV.mp h;have hl:=(d7.mp hj).1;rw[Pj]at hl;have hi:i<n:=hl;rw[O1 hi]at hj;cases hj;rfl
theorem dP(hg:Gl X x)(hm:∃ t,X.mg x=some (.int i t))(hd:↥((x==("__debug__":Str))=false)):PE X (.Name x pos) (tC (.int i)):=by obtain⟨t,hm⟩:=hm;exact C7 hg hm ⟨t,rfl⟩ hd
theorem qW{A:Prop}(h:B):if(!true)=true then A else B:=jm h
theorem qX{A:Prop}(h:A):if(!false)=true then A else B:=jj h
theorem br(h:n<=1000):n<=sizeLine:=Pu (j4 h)
theorem sl(h:Nat.ble n 1000=true):n<=sizeLine:=br (Nat.le_of_ble_eq_true h)
theorem zJ{r:V->Ry->Hp->VK->Prop}{t:TA}(h:to σ H λx H1=>oO K T x H1/\t σ H1 λxs H2=>r x xs H2 Q):FB K T r to t σ H Q:=h
theorem lS(h:H a=some (.lst xs)):oO K "list" (.ref a) H:=.inl ⟨rfl,_,ao.of h⟩
theorem vp(h:H a=some (.lst xs))(z:xs.length<sizeLine)(q:Q .non (upd H a (.lst (xs++[y])))):CN (.ref a) [y] H Q:=⟨a,xs,y,rfl,rfl,h,z,q⟩
theorem aj.bls_eq:∀{bs:List Bool}{vs:Ry}{fp:Rz},aj H (bs.map D.bl) vs fp->vs=bs.map V.bl/\fp=[]|[],_,_,h=>by unfold Sa aj at h;exact h|n::ns,_,_,h=>by rw[bX]at h;unfold aj at h;obtain⟨v,r,f,g,rfl,rfl,h1,h2⟩:=h;unfold ai at h1;obtain⟨rfl,rfl⟩:=h1;obtain⟨rfl,rfl⟩:=aj.bls_eq h2;exact⟨rfl,rfl⟩
theorem ak.bls{bs:List Bool}(h:ak H H' (.lst (bs.map D.bl)) v):∃ a,v=.ref a/\H a=none/\H' a=some (.lst (bs.map V.bl)):=by obtain⟨fp,h1,h2,h3⟩:=h;unfold ai at h1;obtain⟨a,xs,r,e1,e2,e3,e4⟩:=h1;obtain⟨rfl,rfl⟩:=aj.bls_eq e4;subst e2;exact⟨a,e1,h3 a Oi,e3⟩
theorem ak.lso(h:ak H H' (.lst ds) v):∃ a vs fp,v=.ref a/\H a=none/\H' a=some (.lst vs)/\aj H' ds vs fp/\fp.Nodup/\a∉fp/\∀ b∈fp,H b=none:=by obtain⟨fp,h1,h2,h3⟩:=h;unfold ai at h1;obtain⟨a,xs,r,e1,e2,e3,e4⟩:=h1;subst e2;exact⟨a,xs,r,e1,h3 a Oi,e3,e4,(OM.mp h2).2,(OM.mp h2).1,λb m=>h3 b (Oo _ m)⟩
theorem pJ{D:bG}(Pv:Nat->St->Hp->Prop)(h0:Pv 0 σ H)(hs:∀ i σ H,i<n->Pv i σ H->g (.int (lo+i)) σ H λσ2 H2=>tb {D with nx:=Pv (i+1),ct:=Pv (i+1),bk:=D.nx} σ2 H2)(hd:∀ σ H,Pv n σ H->D.nx σ H):oV (k_ lo n) g tb D σ H:=K1 Pv h0 hs hd
theorem CI{D:bG}(Pv:Nat->St->Hp->Prop)(h0:Pv 0 σ H)(hl:∀ i σ H,i<=xs.length->Pv i σ H->ao K H a xs)(hs:∀ i x σ H,xs[i]?=some x->Pv i σ H->g x σ H λσ2 H2=>tb {D with nx:=Pv (i+1),ct:=Pv (i+1),bk:=D.nx} σ2 H2)(hd:∀ σ H,Pv xs.length σ H->D.nx σ H):oV (lg K a) g tb D σ H:=JM Pv h0 hl hs hd
theorem CH:∀{ds:List D},(∀ d∈ds,dg d<=n)->df ds<=n|[],_=>by unfold df;exact O2 _|d::ds,h=>by unfold df;exact Nat.max_le.mpr ⟨h d Oi,CH λe he=>h e (Oo _ he)⟩
theorem D9 (ls:Rw):dg (.lst (ls.map nums))<=2:=by unfold dg;refine Nat.succ_le_succ (CH λd hd=>?_);obtain⟨l,_,rfl⟩:=bU.mp hd;exact wV l
theorem CG(h1:al K H d (.ref a))(h2:al K H d (.ref b))(n:dg d<=60)(q:Q (.bl false) H):je K (.ref a) (.ref b) H Q:=rj h1 h2 n (by rw[uk];exact q)
theorem boot_len:RQ "len"=some (.builtin "len"):=PySem.boot_len
theorem oE:RQ "list"=some (.type "list"):=by decide+kernel
theorem KU:RQ "tuple"=some (.type "tuple"):=by decide+kernel
theorem JX:RQ "int"=some (.type "int"):=by decide+kernel
theorem Nz:RQ "isinstance"=some (.builtin "isinstance"):=by decide+kernel
theorem kK:RQ "all"=some (.builtin "all"):=by decide+kernel
theorem Dm:RQ "any"=some (.builtin "any"):=by decide+kernel
theorem wQ:RQ "max"=some (.builtin "max"):=by decide+kernel
theorem JW:RQ "min"=some (.builtin "min"):=by decide+kernel
theorem JV{t:be}:PySem.W.kitOne K t t=some true:=by unfold PySem.W.kitOne;simp
structure kZ (P:RP)(w:R3)(K:Fg)(mg:Str->Option be)(base:RW)(x:Str)(C:Q2)(ps:List Str)(k:Nat)(sp:Sp):Prop where
 ex:∃ f fd,Mk K C f/\ce P w K mg base bH k f fd ps sp/\f_ K fd ps []/\mg x=some (.ref C)
section
variable {k j:Nat}{ps:List Str}{t:TA}
theorem vo (G:kZ X.prog X.w X.K X.mg X.base x C ps j sp)(hr:aS k X.A)(hg:Gl X x)(ha:PA X (e::es) t)(hj:↥(j+1<=k))(hdb:↥((x==("__debug__":Str))=false))
  (he:⇑(RE (e::es) X.env=(false,RS e X.env)::RE es X.env)) (hpl:⇑((RZ pos (RE es X.env)).any (·.1)=false)):PE X (.Call (.Name x p) (e::es) [] pos) (mf C sp [] E0 t):=by obtain⟨f,fd,M,F,hb,hm⟩:=G.ex;exact HJ M F (hr.mono hj) hg hm hb .nil bZ ha hdb he hpl
theorem GC(h:t σ H λvs H1=>∀ y dx,H1 y=none->H1 dx=none->dx≠y->sp (.ref y::vs) (upd (upd H1 dx (.own y)) y (.ins C dx [])) (λv H2=>v=.non/\Q (.ref y) H2) E0):mf C sp [] E0 t σ H Q:=by
 have e:(λ(vs:Ry) (H1:Hp)=>∀ y dx,H1 y=none->H1 dx=none->dx≠y->sp (.ref y::(vs++[])) (upd (upd H1 dx (.own y)) y (.ins C dx [])) (λv H2=>v=.non/\Q (.ref y) H2) E0)
   =λvs H1=>∀ y dx,H1 y=none->H1 dx=none->dx≠y->sp (.ref y::vs) (upd (upd H1 dx (.own y)) y (.ins C dx [])) (λv H2=>v=.non/\Q (.ref y) H2) E0:=by funext vs H1;rw[OP]
 show t σ H λvs H1=>∀ y dx,H1 y=none->H1 dx=none->dx≠y->sp (.ref y::(vs++[])) (upd (upd H1 dx (.own y)) y (.ins C dx [])) (λv H2=>v=.non/\Q (.ref y) H2) E0;rw[e];exact h
end
variable {tv:TE}
section
variable {D:bG}{f:Str}
theorem rE (h:ta σ H λx H1=>m_ K f x H1 Q):kP K ta f σ H Q:=h
theorem GB (h:tv σ H λy H1=>ta σ H1 λx H2=>m8 K f y x H2 (D.nx σ)):qq K ta tv f D σ H:=h
end
theorem Ic{r':R2}{tb:TE}(h:ta σ H λx H1=>tb σ H1 λy H2=>r x y H2 λz H3=>∃ k,z=.bl k/\if k=true then tc σ H3 λw H4=>r' y w H4 Q else Q (.bl false) H3):vS r r' ta tb tc σ H Q:=h
theorem aj.nil:aj H [] [] []:=by unfold aj;exact⟨rfl,rfl⟩
theorem aj.cint(h:aj H ds xs fp):aj H (.int i::ds) (.int i::xs) fp:=by unfold aj;exact⟨_,_,[],fp,rfl,rfl,by unfold ai;exact⟨rfl,rfl⟩,h⟩
theorem aj.cstr{i:Str}(h:aj H ds xs fp):aj H (.str i::ds) (.str i::xs) fp:=by unfold aj;exact⟨_,_,[],fp,rfl,rfl,by unfold ai;exact⟨rfl,rfl⟩,h⟩
theorem aj.cany{f:Rz}(q:ai H d v f)(h:aj H ds xs fp):aj H (d::ds) (v::xs) (f++fp):=by unfold aj;exact⟨_,_,f,fp,rfl,rfl,q,h⟩
theorem ai.line(h:H a=some (.lst (ns.map V.int))):ai H (nums ns) (.ref a) [a]:=by unfold ai;exact⟨a,_,[],rfl,rfl,h,aj.ints⟩
theorem ai.pair{t:Q2}(h:H t=some (.tup [.int i,.int j])):ai H (.tup [.int i,.int j]) (.ref t) []:=by unfold ai;exact⟨t,_,rfl,h,aj.nil.cint.cint⟩
theorem aj.lines:∀{ls:Rw}{vs:Ry}{fp:Rz},aj H (ls.map nums) vs fp->vs=fp.map V.ref/\fp.length=ls.length/\∀(i:Nat) (a:Q2),fp[i]?=some a->∃ l,ls[i]?=some l/\H a=some (.lst (l.map V.int))
 |[],_,_,h=>by rw[O6]at h;unfold aj at h;obtain⟨rfl,rfl⟩:=h;exact⟨rfl,rfl,λi a e=>by simp at e⟩|l::ls,_,_,h=>by rw[bX]at h;unfold aj at h;obtain⟨v,r,f,g,rfl,rfl,h1,h2⟩:=h;obtain⟨rfl,e2,e3⟩:=aj.lines h2;unfold ai at h1;obtain⟨a,xs,r,rfl,rfl,e4,e5⟩:=h1;obtain⟨rfl,rfl⟩:=aj.ints_eq e5;refine⟨rfl,by simp[e2],λi b e=>?_⟩;cases i with
  |zero=>simp at e;subst e;exact⟨l,rfl,e4⟩|succ i=>exact e3 i b (by simpa using e)
theorem MF:PySem.W.kitOne K (.type "int") (.type "list")=some false:=by rfl
theorem ME:PySem.W.kitOne K (.type "str") (.type "list")=some false:=by rfl
theorem MX:PySem.W.kitOne K (.type "tuple") (.type "list")=some false:=by rfl
theorem JU(h:ao K H a ys)(q:∀ l,H l=none->Q (.ref l) (upd H l (.tup ys))):vI K [.ref a] H Q:=⟨a,ys,rfl,.inl ⟨h,q⟩⟩
theorem rB{neg:Bool}{x:V}(h:ao K H a xs\/aB K H a xs)(f1:fL x=true)(f2:xs.all fL=true)(q:Q (.bl (if neg then !j7 x xs else j7 x xs)) H):uH K neg x (.ref a) H Q:=⟨a,xs,rfl,h,f1,f2,q⟩
theorem jT(hg:Gl X x)(hm:X.mg x=some (.ref a))(hd:↥((x==("__debug__":Str))=false)):PE X (.Name x pos) (tC (.ref a)):=C7 hg hm rfl hd
def bD (H H':Hp)(ds:List D)(vs:Ry):Prop:=∃ fp,aj H' ds vs fp/\fp.Nodup/\∀ a∈fp,H a=none
theorem bD.nil:bD H H' [] []:=⟨[],aj.nil,OX,λ_ m=>by cases m⟩
theorem bD.snoc(h:bD H H1 ds vs)(e:ae H H1)(e2:ae H1 H2)(n:ak H1 H2 d v):bD H H2 (ds++[d]) (vs++[v]):=by
 obtain⟨fp,h1,h2,h3⟩:=h;obtain⟨fq,g1,g2,g3⟩:=n;have keep:∀ a∈fp,H2 a=H1 a:=λa m=>by obtain⟨o,ho⟩:=aj.has ds h1 a m;rw[ho,e2 a o ho]
 refine⟨fp++fq,(aj.frame e2.tups ds keep h1).snoc g1,O3.mpr ⟨h2,g2,λa ha b hb z=>?_⟩,λa m=>?_⟩
 ·subst z;obtain⟨o,ho⟩:=aj.has ds h1 a ha;have:=g3 a hb;rw[ho]at this;cases this
 ·rcases bW.mp m with m|m
  ·exact h3 a m
  ·exact e.free (g3 a m)
theorem bD.lst(h:bD H H1 ds vs)(e:ae H H1)(ha:H1 a=none):ak H (upd H1 a (.lst vs)) (.lst ds) (.ref a):=by
 obtain⟨fp,h1,h2,h3⟩:=h;have s:=ax ha (.lst vs);refine ak.lst (aj.frame s.tups ds (λb m=>?_) h1) h2 h3 (e.free ha) (λm=>?_) aq
 ·obtain⟨o,ho⟩:=aj.has ds h1 b m;rw[ho,s b o ho]
 ·obtain⟨o,ho⟩:=aj.has ds h1 a m;rw[ha]at ho;cases ho
theorem ak.news(h:ak H H' (.lst ds) v):∃ a vs,v=.ref a/\H a=none/\H' a=some (.lst vs)/\bD H H' ds vs:=by obtain⟨a,vs,fp,e1,e2,e3,e4,e5,_,e6⟩:=ak.lso h;exact⟨a,vs,e1,e2,e3,fp,e4,e5,e6⟩
def qm:HO->Bool|.lst _=>true|.tup _=>true|.frz _ _=>true|_=>false
def Sq (H H':Hp):Prop:=∀ b o,H b=some o->qm o=true->H' b=some o
theorem ae.sq(e:ae H H'):Sq H H':=λb o h _=>e b o h
theorem Sq.trans(a:Sq H H1)(b:Sq H1 H2):Sq H H2:=λc o h q=>b c o (a c o h q) q
theorem jI{p:Q2}{u:HO}(h:H p=some u)(n:qm u=false):Sq H (upd H p o):=λb w e q=>by rw[aC (λz=>by rw[z,h]at e;cases e;rw[n]at q;cases q)];exact e
theorem Sq.lst(e:Sq H H')(h:ao K H a xs):ao K H' a xs:=by
 rcases h with(h|⟨o,h⟩)|h
 ·exact .inl (.inl (e _ _ h rfl))
 ·exact .inl (.inr ⟨o,e _ _ h rfl⟩)
 ·exact .inr h
theorem Sq.tup(e:Sq H H')(h:aB K H a xs):aB K H' a xs:=by
 rcases h with(h|⟨o,h⟩)|h
 ·exact .inl (.inl (e _ _ h rfl))
 ·exact .inl (.inr ⟨o,e _ _ h rfl⟩)
 ·exact .inr h
mutual
theorem al.sq {K:Fg}{H H':Hp}(e:Sq H H'):∀(d:D) {v:V},al K H d v->al K H' d v|.non,_,h=>by unfold al at*;exact h|.bl _,_,h=>by unfold al at*;exact h|.int _,_,h=>by unfold al at*;exact h|.str _,_,h=>by unfold al at*;exact h|.lst ds,_,h=>by unfold al at*;obtain⟨a,xs,h1,h2,h3⟩:=h;exact⟨a,xs,h1,e.lst h2,au.sq e ds h3⟩|.tup ds,_,h=>by unfold al at*;obtain⟨a,xs,h1,h2,h3⟩:=h;exact⟨a,xs,h1,e.tup h2,au.sq e ds h3⟩
theorem au.sq {K:Fg}{H H':Hp}(e:Sq H H'):∀(ds:List D) {vs:Ry},au K H ds vs->au K H' ds vs|[],_,h=>by unfold au at*;exact h|d::ds,_,h=>by unfold au at*;obtain⟨v,r,h1,h2,h3⟩:=h;exact⟨v,r,h1,al.sq e d h2,au.sq e ds h3⟩
end
mutual
theorem ai.sq {H H':Hp}(e:Sq H H'):∀(d:D) {v:V}{fp:Rz},ai H d v fp->ai H' d v fp|.non,_,_,h=>by unfold ai at*;exact h|.bl _,_,_,h=>by unfold ai at*;exact h|.int _,_,_,h=>by unfold ai at*;exact h|.str _,_,_,h=>by unfold ai at*;exact h|.lst ds,_,_,h=>by unfold ai at*;obtain⟨a,xs,r,h1,h0,h2,h3⟩:=h;exact⟨a,xs,r,h1,h0,e _ _ h2 rfl,aj.sq e ds h3⟩|.tup ds,_,_,h=>by unfold ai at*;obtain⟨a,xs,h1,h2,h3⟩:=h;exact⟨a,xs,h1,e _ _ h2 rfl,aj.sq e ds h3⟩
theorem aj.sq {H H':Hp}(e:Sq H H'):∀(ds:List D) {vs:Ry}{fp:Rz},aj H ds vs fp->aj H' ds vs fp|[],_,_,h=>by unfold aj at*;exact h|d::ds,_,_,h=>by unfold aj at*;obtain⟨v,r,f,g,h1,h0,h2,h3⟩:=h;exact⟨v,r,f,g,h1,h0,ai.sq e d h2,aj.sq e ds h3⟩
end
def cE (H H':Hp):Prop:=∀ a,H' a=none->H a=none
theorem ae.fr(e:ae H H'):cE H H':=λ_ h=>e.free h
theorem cE.trans(a:cE H H1)(b:cE H1 H2):cE H H2:=λc h=>a c (b c h)
theorem j0{p:Q2}:cE H (upd H p o):=λa h=>by
 by_cases e:a=p
 ·subst e;rw[aq]at h;cases h
 ·rw[aC e]at h;exact h
theorem bD.sq(e:Sq H1 H2)(h:bD H H1 ds vs):bD H H2 ds vs:=by obtain⟨fp,h1,h2,h3⟩:=h;exact⟨fp,aj.sq e ds h1,h2,h3⟩
theorem ak.sq(e:Sq H1 H2)(h:ak H H1 d v):ak H H2 d v:=by obtain⟨fp,h1,h2,h3⟩:=h;exact⟨fp,ai.sq e d h1,h2,h3⟩
theorem bD.snoc'(h:bD H H1 ds vs)(e:cE H H1)(e2:ae H1 H2)(n:ak H1 H2 d v):bD H H2 (ds++[d]) (vs++[v]):=by
 obtain⟨fp,h1,h2,h3⟩:=h;obtain⟨fq,g1,g2,g3⟩:=n;refine⟨fp++fq,(aj.sq e2.sq ds h1).snoc g1,O3.mpr ⟨h2,g2,λa ha b hb z=>?_⟩,λa m=>?_⟩
 ·subst z;obtain⟨o,ho⟩:=aj.has ds h1 a ha;have:=g3 a hb;rw[ho]at this;cases this
 ·rcases bW.mp m with m|m
  ·exact h3 a m
  ·exact e a (g3 a m)
def dB (H:Hp)(d:D)(x:V):Prop:=(∃ i,d=.int i/\x=.int i)\/(∃ s,d=.str s/\x=.str s)\/(∃ b l,d=nums l/\x=.ref b/\H b=some (.lst (l.map V.int)))\/∃ b i j,d=.tup [.int i,.int j]/\x=.ref b/\H b=some (.tup [.int i,.int j])
def iI (H:Hp)(d:D)(v:V):Prop:=∃ t xs ds,d=.tup ds/\v=.ref t/\H t=some (.tup xs)/\ds.length=xs.length/\ds.length<=8/\∀(i:Nat) dd x,ds[i]?=some dd->xs[i]?=some x->dB H dd x
theorem dB.sq(e:Sq H H'){x:V}(h:dB H d x):dB H' d x:=by
 rcases h with h|h|⟨b,l,h1,h2,h3⟩|⟨b,i,j,h1,h2,h3⟩
 ·exact .inl h
 ·exact .inr (.inl h)
 ·exact .inr (.inr (.inl ⟨b,l,h1,h2,e _ _ h3 rfl⟩))
 ·exact .inr (.inr (.inr ⟨b,i,j,h1,h2,e _ _ h3 rfl⟩))
theorem iI.sq(e:Sq H H')(h:iI H d v):iI H' d v:=by obtain⟨t,xs,ds,h1,h2,h3,h4,h5,h6⟩:=h;exact⟨t,xs,ds,h1,h2,e _ _ h3 rfl,h4,h5,λi dd x e1 e2=>(h6 i dd x e1 e2).sq e⟩
def vF (d:D):Prop:=(∃ i,d=.int i)\/(∃ s,d=.str s)\/(∃ l,l.length=9/\d=nums l)\/∃ i j,d=.tup [.int i,.int j]
theorem Ib(s:vF d)(h:ai H d v fp):dB H d v:=by
 rcases s with⟨i,rfl⟩|⟨i,rfl⟩|⟨l,_,rfl⟩|⟨i,j,rfl⟩
 ·unfold ai at h;exact .inl ⟨i,rfl,h.1⟩
 ·unfold ai at h;exact .inr (.inl ⟨i,rfl,h.1⟩)
 ·unfold ai at h;obtain⟨a,xs,r,h1,_,h2,h3⟩:=h;obtain⟨rfl,_⟩:=aj.ints_eq h3;exact .inr (.inr (.inl ⟨a,l,rfl,h1,h2⟩))
 ·unfold ai at h;obtain⟨a,xs,h1,h2,h3⟩:=h;have q:=aj.ints_eq (ns:=[i,j]) h3;rw[q.1]at h2;exact .inr (.inr (.inr ⟨a,i,j,rfl,h1,h2⟩))
theorem Dl:∀{ds:List D}{xs:Ry}{fp:Rz},(∀ d∈ds,vF d)->aj H ds xs fp->∀(i:Nat) dd x,ds[i]?=some dd->xs[i]?=some x->dB H dd x
 |[],_,_,_,_,i,dd,x,e,_=>by simp at e|d::ds,_,_,s,h,i,dd,x,e1,e2=>by unfold aj at h;obtain⟨v,r,f,g,rfl,_,h1,h2⟩:=h;cases i with
  |zero=>simp at e1 e2;subst e1;subst e2;exact Ib (s d Oi) h1|succ i=>exact Dl (λc hc=>s c (Oo _ hc)) h2 i dd x (by simpa using e1) (by simpa using e2)
def sM (d:D):Prop:=∃ ds,d=.tup ds/\ds.length<=8/\∀ c∈ds,vF c
theorem tK(s:sM d)(h:ai H d v fp):iI H d v:=by obtain⟨ds,rfl,h8,hs⟩:=s;unfold ai at h;obtain⟨a,xs,h1,h2,h3⟩:=h;exact⟨a,xs,ds,rfl,h1,h2,h3.length,h8,Dl hs h3⟩
def fk (H:Hp)(da:Q2)(H2:Hp)(ds:List D)(vs:Ry):Prop:=∃ fp,H2 da=some (.lst vs)/\aj H2 ds vs fp/\fp.Nodup/\da∉fp/\∀ b∈fp,H b=none
variable {da:Q2}
theorem fk.start(h:H2 da=some (.lst [])):fk H da H2 [] []:=⟨[],h,aj.nil,OX,by simp,λ_ m=>by cases m⟩
variable {H3:Hp}
theorem fk.app(a:fk H da H2 ds vs)(f:cE H H2)(s:ae H2 H3)(n:ak H2 H3 d v):fk H da (upd H3 da (.lst (vs++[v]))) (ds++[d]) (vs++[v]):=by
 obtain⟨fp,h1,h2,h3,h4,h5⟩:=a;obtain⟨fq,g1,g2,g3⟩:=n;have hd3:=s _ _ h1;have tk:=kM (o:=.lst (vs++[v])) hd3;have ndq:da∉fq:=λm=>by have:=g3 da m;rw[h1]at this;cases this
 have k1:∀ b∈fp,(upd H3 da (.lst (vs++[v]))) b=H2 b:=λb hb=>by obtain⟨o,ho⟩:=aj.has ds h2 b hb;rw[aC (show b≠da from λz=>h4 (by rw[<-z];exact hb)),ho];exact s _ _ ho
 have k2:∀ b∈fq,(upd H3 da (.lst (vs++[v]))) b=H3 b:=λb hb=>by rw[aC (show b≠da from λz=>ndq (by rw[<-z];exact hb))]
 refine⟨fp++fq,aq,(aj.frame (s.tups.trans tk) ds k1 h2).snoc (ai.frame tk d k2 g1),O3.mpr ⟨h3,g2,λa ha b hb z=>?_⟩,λm=>(bW.mp m).elim h4 ndq,λb m=>?_⟩
 ·subst z;obtain⟨o,ho⟩:=aj.has ds h2 a ha;have:=g3 a hb;rw[ho]at this;cases this
 ·rcases bW.mp m with m|m
  ·exact h5 b m
  ·exact f b (g3 b m)
theorem fk.new(a:fk H da H2 ds vs)(h:H da=none):ak H H2 (.lst ds) (.ref da):=by obtain⟨fp,h1,h2,h3,h4,h5⟩:=a;exact ak.lst h2 h3 h5 h h4 h1
theorem vQ{d1 d2 d3 d4:D}(h:aj H [d1,d2,d3,d4] vs fp):∃ x1 x2 x3 x4 f1 f2 f3 f4,vs=[x1,x2,x3,x4]/\ai H d1 x1 f1/\ai H d2 x2 f2/\ai H d3 x3 f3/\ai H d4 x4 f4:=by unfold aj at h;obtain⟨x1,_,f1,_,rfl,_,h1,h⟩:=h;unfold aj at h;obtain⟨x2,_,f2,_,rfl,_,h2,h⟩:=h;unfold aj at h;obtain⟨x3,_,f3,_,rfl,_,h3,h⟩:=h;unfold aj at h;obtain⟨x4,_,f4,_,rfl,_,h4,h⟩:=h;unfold aj at h;obtain⟨rfl,_⟩:=h;exact⟨x1,x2,x3,x4,f1,f2,f3,f4,rfl,h1,h2,h3,h4⟩
theorem ai.lso{x:V}(h:ai H (.lst ds) x fp):∃ b xs r,x=.ref b/\H b=some (.lst xs)/\aj H ds xs r:=by unfold ai at h;obtain⟨b,xs,r,e1,_,e3,e4⟩:=h;exact⟨b,xs,r,e1,e3,e4⟩
theorem aj.item:∀{ds:List D}{xs:Ry}{fp:Rz},aj H ds xs fp->∀(i:Nat) d x,ds[i]?=some d->xs[i]?=some x->∃ f,ai H d x f
 |[],_,_,_,i,d,x,e,_=>by simp at e|c::ds,_,_,h,i,d,x,e1,e2=>by unfold aj at h;obtain⟨v,r,f,g,rfl,_,h1,h2⟩:=h;cases i with
  |zero=>simp at e1 e2;subst e1;subst e2;exact⟨f,h1⟩|succ i=>exact aj.item h2 i d x (by simpa using e1) (by simpa using e2)
variable {Y:Prop}
theorem ik{b:Bool}{X:Prop}(h1:b=true->X)(h2:b=false->Y):∃ c,V.bl b=.bl c/\(if c=true then X else Y):=by cases b with
 |true=>exact⟨true,rfl,jj (h1 rfl)⟩|false=>exact⟨false,rfl,jm (h2 rfl)⟩
theorem fZ{b:Bool}{X:Prop}(h1:b=true->X)(h2:b=false->Y):(if b=true then X else Y):=by cases b with
 |true=>exact jj (h1 rfl)|false=>exact jm (h2 rfl)
theorem GA(h1:aB K H a xs)(h2:aB K H b ys)(nx:xs≠[])(ny:ys≠[])(z:xs.length+ys.length<=sizeLine)(q:∀ p,H p=none->Q (.ref p) (upd H p (.tup (xs++ys)))):nA K (.ref a) (.ref b) H Q:=.inr (.inr ⟨a,b,xs,ys,rfl,rfl,h1,h2,nx,z,λe=>OE e ny,λ_=>q⟩)
theorem mx(h:al K H (.tup ds) v):∃ a xs,v=.ref a/\aB K H a xs/\au K H ds xs:=by unfold al at h;exact h
open PySem.W
theorem cS.has(x:cS P w H h a o):∃ u,h.get? a=some u:=by cases o with
 |lst xs=>obtain⟨_,_,_,_,e⟩:=x;exact⟨_,e⟩|tup xs=>obtain⟨_,_,_,_,e,_⟩:=x;exact⟨_,e⟩|dK kvs=>obtain⟨_,_,_,_,o,_,_,e,_⟩:=x;exact⟨_,e⟩|dT kvs=>obtain⟨_,_,_,_,o,_,_,e,_⟩:=x;exact⟨_,e⟩|set S n=>obtain⟨o,_,_,_,e,_⟩:=x;exact⟨_,e⟩|ins C dx fs=>obtain⟨_,_,_,e,_⟩:=x;exact⟨_,e⟩|own y=>obtain⟨_,e⟩:=x;exact⟨_,e⟩|xd fs=>obtain⟨_,⟨_,_,_,e,_⟩,_⟩:=x;exact⟨_,e⟩|rng lo hi=>obtain⟨_,_,_,e⟩:=x;exact⟨_,e⟩|frz ob u=>obtain⟨e,_⟩:=x;exact⟨_,e⟩|tbl ps=>exact⟨_,show h.get? a=some _ from x⟩|met f y=>exact⟨_,show h.get? a=some _ from x⟩|ext φ=>obtain⟨_,⟨_,e⟩,_⟩:=x;exact⟨_,e⟩
def N_ (o:Obj):Prop:=∃ fs,o.data=.fields fs/\fs[2]?=some .none
def lj (h:RW)(e T:Q2)(cls fl:be):Prop:=∃ oe vs oT ts,h.get? e=some oe/\oe.cls=cls/\oe.dict=none/\oe.data=.fields vs/\vs[1]?=some (.ref T)/\T≠e/\h.get? T=some oT/\oT.data=.fields ts/\ts[3]?=some fl/\vs[2]?=some .none
def mr (fr as:Rz)(h h':RW):Prop:=(∀ b o,h.get? b=some o->b∉fr->b∉as->h'.get? b=some o)/\∀ b o,h.get? b=some o->b∈fr->b∉as->∃ sl,h'.get? b=some {o with slots:=sl}
variable {as:Rz}
theorem mr.up{fr:Rz}(k:mr fr as h h'){o:Obj}(e:h.get? b=some o)(n:b∉as):∃ sl,h'.get? b=some {o with slots:=sl}:=by
 by_cases m:b∈fr
 ·exact k.2 b o e m n
 ·exact⟨o.slots,k.1 b o e m n⟩
variable {T L:Q2}{outer:List Env}{oe:Obj}{cls:be}{M:Model}
section
variable {E:be->RC->Prop}
variable {e:Q2}{Q:Unit->RC->Prop}
theorem D8{vs:Array be}{head:be}{hadNext:Bool}(hfr:A.frames=some (env::outer))(hl:s.heap.FunFrames base (env::outer))(hf:env.frame=some L)(he:s.heap.get? e=some oe)(hd:oe.data=.fields vs)(hsz:1<vs.size)(hdi:oe.dict=none)(h2:vs[2]?=some .none)(h:∀ h' T,s.heap.get? T=none->lj h' e T oe.cls (rawInt L)->mr (dQ (env::outer)) [e] s.heap h'->Q () {s with heap:=h'}):
  RF M A (do let a<-frameOf env;let pl<-entryPlaceOf L hadNext;let b<-EntryCells.newEntry head a .none (rawInt L) .none pl;setField (.ref e) 1 b) Q E s:=by
 have hene:e∉(env::outer).filterMap (·.frame):=λhm=>by obtain⟨_,o,ho,hnf⟩:=hl.mem hm;rw[he]at ho;injection ho with ho;subst ho;exact hnf vs hd
 refine Pz (wpAny_frameOf_fun hfr hl hf λh₁ hs₁=>?_);refine Pz (wpAny_entryPlaceOf λpl hpl=>?_);unfold EntryCells.newEntry newFields;refine Pz (PX ?_ (hpl.sizeOk5 _ _ _ _ _));have he₁:h₁.get? e=some oe:=(hs₁.2.1 e hene).trans he;have he₂:=PB (h:=h₁) {cls:=.type "traceback",dict:=none,data:=.fields ([head,.ref L,.none,rawInt L,.none]++(if pl.isEmpty then RB 6 Sb else pl)).toArray} he₁;refine wpAny_setField he₂ hd hsz (h _ h₁.objs.size (Heap.get?_none_of_le (by rw[hs₁.1];exact On _)) ?_ ?_)
 ·have hTe:h₁.objs.size≠e:=Nat.ne_of_gt (PD he₁);have hd₃:=Obj.data_mapFields hd (·.setIfInBounds 1 (RI h₁.objs.size));have he₃:=Heap.get?_update_self (Obj.mapFields (·.setIfInBounds 1 (RI h₁.objs.size))) he₂ (Obj.isFreed_of_fields hd₃);have hT₃:=(PU (h₁.push {cls:=.type "traceback",dict:=none,data:=.fields ([head,.ref L,.none,rawInt L,.none]++(if pl.isEmpty then RB 6 Sb else pl)).toArray})
   (Obj.mapFields (·.setIfInBounds 1 (RI h₁.objs.size))) (R7 hTe)).trans (PJ h₁ rfl)
  refine⟨_,_,_,_,he₃,Obj.cls_mapFields _ _,?_,hd₃,by simp[hsz],hTe,hT₃,rfl,by first|(simp;done)|(rcases hpl with rfl|⟨_,_,_,_,_,_,_,rfl⟩<;>simp),by simp[Array.getElem?_setIfInBounds,h2]⟩;obtain⟨c,di,dt,sl⟩:=oe;cases hd;exact hdi
 ·have keep:∀ b o,b≠e->h₁.get? b=some o->((h₁.push {cls:=.type "traceback",dict:=none,data:=.fields ([head,.ref L,.none,rawInt L,.none]++(if pl.isEmpty then RB 6 Sb else pl)).toArray}).update e (Obj.mapFields (·.setIfInBounds 1 (RI h₁.objs.size)))).get? b=some o:=λb o hbe hb=>by rw[PU _ _ (R7 hbe)];exact PB _ hb
  refine⟨λb o eb n1 n2=>keep b o (λz=>n2 (by simp[z])) ((hs₁.2.1 b n1).trans eb),λb o eb m n=>?_⟩;obtain⟨sl,hsl⟩:=hs₁.2.2 b o eb;exact⟨sl,keep b _ (λz=>n (by simp[z])) hsl⟩
theorem tS{fr:Rz}{fl:be}(F:lj s.heap e T cls fl)(h:∀ h',lj h' e T cls .none->mr fr [T] s.heap h'->Q () {s with heap:=h'}):RF M A (setFlight (.ref e) none) Q E s:=by obtain⟨oe,vs,oT,ts,he,hcls,hdi,hd,h1,hTe,hT,hdT,h3,h2⟩:=F;have hsz3:3<ts.size:=(Array.getElem?_eq_some_iff.mp h3).1;have other:∀ b,b≠T->(s.heap.update T (Obj.mapFields (·.setIfInBounds 3 ((none:Option Q2).elim Sb λf=>rawInt f)))).get? b=s.heap.get? b:=λb hb=>PU _ _ (R7 hb);unfold setFlight;refine Pz (P2 he hd h1 ?_);rw[Ol (show(RI T !=Sb)=true from by simp)];refine wpAny_setField hT hdT hsz3 (h _ ?_ ⟨λb o e n1 n2=>(other b (λz=>n2 (by simp[z]))).trans e,λb o e m n=>⟨o.slots,(other b (λz=>n (by simp[z]))).trans e⟩⟩);exact⟨oe,vs,_,_,(other e (R7 hTe)).trans he,hcls,hdi,hd,h1,hTe,Heap.get?_update_self _ hT (Obj.isFreed_of_fields (Obj.data_mapFields hdT _)),Obj.data_mapFields hdT _,by simp[hsz3],h2⟩
theorem Dk(hfr:A.frames=some (env::outer))(hl:s.heap.FunFrames base (env::outer))(hf:env.frame=some L)(F:lj s.heap e T cls .none)(h:∀ h' T',s.heap.get? T'=none->lj h' e T' cls (rawInt L)->mr (dQ (env::outer)) [e,T] s.heap h'->Q () {s with heap:=h'}):RF M A (noteFrame (.ref e) env) Q E s:=by
 obtain⟨oe,vs,oT,ts,he,hcls,hdi,hd,h1,hTe,hT,hdT,h3,h2⟩:=F;subst hcls;have hsz3:3<ts.size:=(Array.getElem?_eq_some_iff.mp h3).1;have other:∀ b,b≠T->(s.heap.update T (Obj.mapFields (·.setIfInBounds 3 Sb))).get? b=s.heap.get? b:=λb hb=>PU _ _ (R7 hb);have noRecord:∀ b o,s.heap.get? b=some o->(∀ vs,o.data≠.fields vs)->b≠T:=λb o hb hnf q=>by rw[q,hT]at hb;injection hb with hb;subst hb;exact hnf ts hdT
 unfold noteFrame;simp only[hf];refine Pz (P2 he hd h1 ?_);rw[Ol (show(RI T !=Sb)=true from by simp)];refine Pz (P2 hT hdT h3 ?_);rw[Oh (show ¬ ((Sb==rawInt L)=true)from by simp[rawInt])];refine Pz (wpAny_setField hT hdT hsz3 ?_);refine D8 hfr (hl.of_keeps λb o hb hnf=>⟨o,(other b (noRecord b o hb hnf)).trans hb,rfl⟩) hf ((other e (R7 hTe)).trans he) hd (Array.getElem?_eq_some_iff.mp h1).1 hdi h2 λh' T' n F' k=>?_;have nT':s.heap.get? T'=none:=by
  by_cases z:T'=T
  ·subst z;rw[Heap.get?_update_self _ hT (Obj.isFreed_of_fields (Obj.data_mapFields hdT _))]at n;cases n
  ·rw[<-other T' z];exact n
 refine h h' T' nT' F' ⟨λb o eb n1 n2=>k.1 b o ((other b (λz=>n2 (by simp[z]))).trans eb) n1 (λz=>n2 (by simp at z;simp[z])),λb o eb m n2=>k.2 b o ((other b (λz=>n2 (by simp[z]))).trans eb) m (λz=>n2 (by simp at z;simp[z]))⟩
end
def Bo (h0 h:RW)(H:Hp)(e:Q2)(cls:be):Prop:=∃ T,lj h e T cls .none/\H e=none/\H T=none/\h0.get? e=none/\h0.get? T=none
def cI (P:RP)(w:R3):ke:=λouter H s E e s'=>∃ a C H',e=.ref a/\s'.os=s.os/\AllBare s'.gens/\Un (dQ outer) [] H H' s.heap s'.heap/\dk P w H' s'.heap/\Bo s.heap s'.heap H' a C/\E C none H'
variable {s2:RC}{cd:be}{E:XK}
section
variable {f:Q2}
theorem sZ(I:am X P6 σ H2 s2)(hex:X.ex=[])(n:s2.heap.get? b=none):X.s₀.heap.get? b=none:=by cases z:X.s₀.heap.get? b with
 |none=>rfl|some o=>obtain⟨u,hu⟩:=I.base.there b o z (by rw[hex];simp);rw[n]at hu;cases hu
theorem BA(I:am X P6 σ H2 s2)(n:s2.heap.get? b=none):H2 b=none:=by cases z:H2 b with
 |none=>rfl|some o=>obtain⟨u,hu⟩:=(I.hok b o z).has;rw[n]at hu;cases hu
variable {C:be}
theorem CU(I:am (bT (cI P w) P w K mg base N qual scope f cd A outer s H E) P6 σ H2 s2)(hx:H2 a=none)(hx0:s.heap.get? a=none)(has:∀ b∈as,H2 b=none/\s.heap.get? b=none)(nT:s2.heap.get? T=none)(F:lj h' a T C .none)(L:mr (dQ (bT (cI P w) P w K mg base N qual scope f cd A outer s H E).stack) as s2.heap h')(q:E C none H2):cI P w outer H s E (.ref a) {s2 with heap:=h'}:=by
 have fr:∀ b,b∈dQ (bT (cI P w) P w K mg base N qual scope f cd A outer s H E).stack->b=s.heap.objs.size\/b∈dQ outer:=λb hb=>by
  obtain⟨ev,he,hf⟩:=OY.mp hb;rcases Oe.mp he with z|z
  ·subst z;exact .inl (OL hf).symm
  ·exact .inr (OY.mpr ⟨ev,z,hf⟩)
 have nsz:s.heap.get? s.heap.objs.size=none:=Heap.get?_none_of_le (On _);have hidden:∀ b,s.heap.get? b≠none->b∉as:=λb n m=>n (has b m).2;refine⟨a,C,H2,rfl,I.os,I.bare,⟨λb o e n nf _=>?_,λb o e n nf _=>?_,λb o e n _=>I.base.free b o e n (by intro m;cases m),λb o e _=>?_,I.base.tups,I.base.frzs,I.base.tbls⟩,λb u e=>?_,⟨T,F,hx,BA I nT,hx0,sZ I rfl nT⟩,q⟩
 ·refine L.1 b o (I.base.keep b o e n nf (by intro m;cases m)) (λm=>?_) (hidden b (by rw[e];simp));rcases fr b m with z|z
  ·subst z;rw[nsz]at e;cases e
  ·exact nf z
 ·obtain⟨sl,e'⟩:=I.base.slot b o e n nf (by intro m;cases m);obtain⟨sl2,e2⟩:=L.up e' (hidden b (by rw[e];simp));exact⟨sl2,e2⟩
 ·obtain⟨o2,h2⟩:=I.base.there b o e (by intro m;cases m);obtain⟨sl,e5⟩:=L.up h2 (hidden b (by rw[e];simp));exact⟨_,e5⟩
 ·refine(I.hok b u e).stay (λc v hc q=>L.1 c v q (λm=>?_) (λm=>?_)) (λ_ q=>q) λ_ _ q=>q
  ·have:=I.stkFree c m;rcases hc with z|z
   ·subst z;rw[e]at this;cases this
   ·rw[z]at this;cases this
  ·have:=(has c m).1;rcases hc with z|z
   ·subst z;rw[e]at this;cases this
   ·rw[z]at this;cases this
theorem JT(I:am (bT (cI P w) P w K mg base N qual scope f cd A outer s H E) P6 σ H2 s2)(F:Bo s.heap s2.heap H2 a C)(q:E C none H2):(bT (cI P w) P w K mg base N qual scope f cd A outer s H E).xe (.ref a) s2:=by
 obtain⟨T,F,hx,hT,hx0,hT0⟩:=F;show RF _ _ (leaving _ _) _ _ _;unfold leaving;refine Pz (Dk (outer:=outer) I.ok.frames I.stack rfl F λh1 T1 n1 F1 k1=>?_);refine tS (fr:=dQ (bT (cI P w) P w K mg base N qual scope f cd A outer s H E).stack) F1 λh2 F2 k2=>?_;refine CU (s2:=s2) (h':=h2) (as:=[a,T]) I hx hx0 (λb m=>?_) n1 F2 ⟨λb o e m n=>k2.1 b o (k1.1 b o e m n) m (λz=>by rw[bn.mp z,n1]at e;cases e),λb o e m n=>?_⟩ q
 ·rcases Oe.mp m with z|z
  ·subst z;exact⟨hx,hx0⟩
  ·rw[bn.mp z];exact⟨hT,hT0⟩
 ·obtain⟨sl,e1⟩:=k1.2 b o e m n;obtain⟨sl2,e2⟩:=k2.up e1 (λz=>by rw[bn.mp z,n1]at e;cases e);exact⟨sl2,e2⟩
theorem qI{e:be}(I:am (bT (cI P w) P w K mg base N qual scope f cd A outer s H E) P6 σ H2 s2)(h:cI P w (bT (cI P w) P w K mg base N qual scope f cd A outer s H E).stack H2 s2 E e s3):(bT (cI P w) P w K mg base N qual scope f cd A outer s H E).xe e s3:=by obtain⟨a,C,H3,rfl,os,bare,un,hok,⟨T,F,hx,hT,hx0,hT0⟩,q⟩:=h;exact JT (I.call' os un hok bare (λb z=>OE z (by simp))) ⟨T,F,hx,hT,sZ I rfl hx0,sZ I rfl hT0⟩ q
theorem v5:im (cI P w) (bT (cI P w) P w K mg base N qual scope f cd A outer s H E) E:=λ_ _ _ _ _ _ I h=>qI I h
theorem Kv{h3:RW}{args:List be}(I:am (bT (cI P w) P w K mg base N qual scope f cd A outer s H E) P6 σ H2 s2)(M:Heap.MadeExcOf s2.heap h3 a C args)(q:E C none H2):(bT (cI P w) P w K mg base N qual scope f cd A outer s H E).xe (.ref a) {s2 with heap:=h3}:=by obtain⟨t,he,htn,ht⟩:=M.there;have I3:am (bT (cI P w) P w K mg base N qual scope f cd A outer s H E) P6 σ H2 {s2 with heap:=h3}:=I.un (h':=h3) (t':=s2.toks) (Un.kept M.keeps) (I.hok.kept M.keeps);have hx:=BA I M.new;have hx0:s.heap.get? a=none:=sZ I rfl M.new;show RF _ _ (leaving _ _) _ _ _;unfold leaving noteFrame;show RF _ _ ((do let head<-field (.ref a) 1;_)>>=_) _ _ _;refine Pz (Pz (P2 he rfl (x:=.none) rfl ?_));rw[Oh (by decide)];refine D8 (outer:=outer) I3.ok.frames I3.stack rfl he rfl (by simp) rfl rfl λh1 T1 n1 F1 k1=>?_;refine tS (fr:=dQ (bT (cI P w) P w K mg base N qual scope f cd A outer s H E).stack) F1 λh2 F2 k2=>?_;have n1':h3.get? T1=none:=n1;refine CU (s2:={s2 with heap:=h3}) (h':=h2) (as:=[a]) I3 hx hx0 (λb m=>by rw[bn.mp m];exact⟨hx,hx0⟩) n1' F2 ⟨λb o e m n=>k2.1 b o (k1.1 b o e m n) m (λz=>by rw[bn.mp z]at e;rw[show h3.get? T1=some o from e]at n1';cases n1'),λb o e m n=>?_⟩ q;obtain⟨sl,e1⟩:=k1.2 b o e m n;obtain⟨sl2,e2⟩:=k2.up e1 (λz=>by rw[bn.mp z]at e;rw[show h3.get? T1=some o from e]at n1';cases n1');exact⟨sl2,e2⟩
end
structure kd (K:Fg)(C:Q2)(anc:List be):Prop where
 ob:∃ nm q N bs hdct sn sub ab col dd k0 k1 k2 k3 k5,K.lookup C=some (excClassObj nm q C N bs anc hdct sn sub ab col dd k0 k1 k2 k3 k5 "ValueError.__new__")
 ex:excIn K C fN "ValueError.__new__"=true
variable {anc:List be}
theorem kd.obj(X:K.In h)(e:kd K C anc):∃ nm q N bs hdct sn sub ab col dd k0 k1 k2 k3 k5 mN,h.get? C=some (excClassObj nm q C N bs anc hdct sn sub ab col dd k0 k1 k2 k3 k5 "ValueError.__new__")/\h.Ns N mN/\mN "__init__"=none/\OwnTail h fN anc:=by obtain⟨⟨nm,q,N,bs,hdct,sn,sub,ab,col,dd,k0,k1,k2,k3,k5,l⟩,x⟩:=e;unfold excIn at x;rw[l]at x;simp only[Of,Pd,Bool.not_eq_true']at x;obtain⟨⟨⟨_,ht⟩,hok⟩,hni⟩:=x;exact⟨nm,q,N,bs,hdct,sn,sub,ab,col,dd,k0,k1,k2,k3,k5,_,X _ _ l,.of_isNs (isNs_of_in X hok),nsMap_none_of_in X hok hni,tail_of_in X ht⟩
def Cm (X:Cx)(E:XK):Prop:=∀(P6:RA) (σ:St) (H:Hp) (s:RC) (h':RW) (a:Q2) (C:be) (args:List be),am X P6 σ H s->Heap.MadeExcOf s.heap h' a C args->E C none H->X.xe (.ref a) {s with heap:=h'}
theorem pI{f:Q2}:
  Cm (bT (cI P w) P w K mg base N qual scope f cd A outer s H E) E:=λ_ _ _ _ _ _ _ _ I M q=>Kv I M q
def Ck (C:be)(E:XK)(t:TA):TS:=λ_ σ H=>t σ H λvs H1=>vs.length<=sizeLine/\E C none H1
variable {np:Pos}
section
variable {cpos:Pos}{e0:Expr}{rest:List Expr}{t:TA}
theorem pM (c:kd X.K C anc)(hg:Gl X x)(hm:X.mg x=some (.ref C))(hc:X.calm=true)(ht:Cm X E)(ha:PA X (e0::rest) t)(he:⇑(RE (e0::rest) X.env=(false,RS e0 X.env)::RE rest X.env))
  (hpl:⇑((RZ cpos (RE rest X.env)).any (·.1)=false)) (hd:↥((x==("__debug__":Str))=false)):PS X (.Raise (some (.Call (.Name x np) (e0::rest) [] cpos)) none pos) (Ck (.ref C) E t):=by
 intro P6 s σ H D I h;obtain⟨nm,q,N,bs,hdct,sn,sub,ab,col,dd,k0,k1,k2,k3,k5,mN,hC,hN,hni,T⟩:=c.obj I.ok.mod.kin;refine wpAny_Raise_call_subT (C:=C) (nm:=nm) (q:=q) (N:=N) (bs:=bs) (bm:=anc) (hdct:=hdct) (sn:=sn) (sub:=sub) (ab:=ab) (col:=col) (dd:=dd) (k0:=k0) (k1:=k1) (k2:=k2) (k3:=k3) (k5:=k5)
  PySem.F.excBase_ValueError (mN:=mN) (T.hasType PySem.F.excBase_ValueError.hasBase) (I.ok.hd hc) (by rw[he];show(false ||(RZ cpos (RE rest X.env)).any (·.1))=false;rw[hpl];rfl) hni (my I hg hm ⟨rfl,?_⟩ hd)
 have h2:=ha cpos P6 s σ H _ I h;rw[he]at h2 ⊢;refine Calls.evalArgs_plain (PL h2 (λus s2 h2=>?_) λ_ _ y=>y);obtain⟨vs,H1,I1,r,z,q⟩:=h2;exact⟨rfl,by rw[<-r.length];exact z,I1.bk _ _ hC,hN.keeps I1.bk,T.keeps I1.bk,λh' e M=>ht P6 σ H1 s2 h' e _ _ I1 M q⟩
end
section
theorem aN.okx{f:Q2}{ps:List Str}{k:Nat}(F:aN K x qual st f fd)(S:aQ N ps (aI st))(len:∀ vs H Q E,sp vs H Q E->vs.length=ps.length)(hbody:∀(cdv:be) (A:Sn) (outer:List Env) (s:RC) (H:Hp) (vs:Ry) (Q:VK) (E:XK),aS k (A.deeper (envOfC qual (aI st) s.heap.objs.size f cdv))->sp vs H Q E->
   ∃ t,fh (bT (cI P w) P w K mg base N qual (aI st) f cdv A outer s H E) (gE st) t/\t {nx:=λ_ H'=>Q .non H',rt:=Q} (start N vs) H):ce P w K mg base (cI P w) (k+1) f fd ps sp:=by obtain⟨oc,od,kV,doc,pm,an,cdv,ct,osl,rfl,lk,hcd⟩:=F.ex;exact BJ lk hcd S len λA outer s H vs Q E hr hsp=>hbody cdv A outer s H vs Q E hr hsp
end
structure uY (P:RP)(w:R3)(K:Fg)(mg:Str->Option be)(base:RW)(x:Str)(ps:List Str)(k:Nat)(sp:Sp):Prop where
 ex:∃ f fd,ce P w K mg base (cI P w) k f fd ps sp/\f_ K fd ps []/\RU K (.ref f)=true/\mg x=some (.ref f)
structure uV (P:RP)(w:R3)(K:Fg)(mg:Str->Option be)(base:RW)(x:Str)(C:Q2)(ps:List Str)(k:Nat)(sp:Sp):Prop where
 ex:∃ f fd,Mk K C f/\ce P w K mg base (cI P w) k f fd ps sp/\f_ K fd ps []/\mg x=some (.ref C)
structure bF (CX:ke)(P:RP)(w:R3)(K:Fg)(mg:Str->Option be)(base:RW)(C:Q2)(m:Str)(ps:List Str)(k:Nat)(sp:Sp):Prop where
 ex:∃ f fd,bq K C m f/\ce P w K mg base CX k f fd ps sp/\f_ K fd ps []
variable {pl:Sem Bool}{apos:Pos}
section
variable {k j:Nat}{ps:List Str}{m:Str}{o:Expr}{t:TA}
theorem Gz (G:uY X.prog X.w X.K X.mg X.base x ps j sp)(hr:aS k X.A)(hg:Gl X x)(hx:im (cI X.prog X.w) X E)(ha:PA X (e::es) t)(hj:↥(j<=k))(hdb:↥((x==("__debug__":Str))=false))
  (he:⇑(RE (e::es) X.env=(false,RS e X.env)::RE es X.env)) (hpl:⇑((RZ pos (RE es X.env)).any (·.1)=false)):PE X (.Call (.Name x p) (e::es) [] pos) (nH sp [] E t):=by obtain⟨f,fd,F,hb,hk,hm⟩:=G.ex;exact Dc (F.mono hj) hr hg hm hk hb .nil hx ha hdb he hpl
theorem cN(G:bF CX X.prog X.w X.K X.mg X.base C m ps j sp)(c:fH X.K C)(hr:aS k X.A)(hx:im CX X E)(he:PE X o ta)(ha:PA X (e::es) t)(hj:↥(j<=k))(hst:⇑(RE (e::es) X.env=(false,RS e X.env)::RE es X.env))(hpl:⇑((RZ pos (RE es X.env)).any (·.1)=false))(ht:⇑(RS (.Call (.Attribute o m apos) (e::es) [] pos) X.env=(do
   let ov<-RS o X.env
   standAt apos.atName
   let (f,first)<-holding [ov] (getMethod ov m pl)
   callWith pos f first (RZ pos (RE (e::es) X.env)) (backToKw pos (Sy [] X.env))))):
  PE X (.Call (.Attribute o m apos) (e::es) [] pos) (nG C m sp [] E ta t):=by obtain⟨f,fd,M,F,hb⟩:=G.ex;exact HL he c M (F.mono hj) hr hb .nil hx ha hst hpl ht
theorem io(G:bF CX X.prog X.w X.K X.mg X.base C m ps j sp)(c:fH X.K C)(hr:aS k X.A)(hx:im CX X E)(he:PE X o ta)(hj:↥(j<=k))(ht:⇑(RS (.Call (.Attribute o m apos) [] [] pos) X.env=(do
   let ov<-RS o X.env
   standAt apos.atName
   let (f,first)<-holding [ov] (getMethod ov m pl)
   callWith pos f first (RZ pos (RE [] X.env)) (backToKw pos (Sy [] X.env))))):
  PE X (.Call (.Attribute o m apos) [] [] pos) (nG C m sp [] E ta gK):=by obtain⟨f,fd,M,F,hb⟩:=G.ex;exact JJ he c M (F.mono hj) hr hb .nil hx ht
end
variable {q:Str}{bm:List be}{newId:String}
section
variable {E:be->RC->Prop}{g:Array GenState}{d:Drawn}{t:Nat}{os:OsState}
variable {nm nm' q':Str}{N D N':Q2}{bs bs' bm':List be}{hdct hdct':Bool}{sn sn':List Str}{sub sub':List be}{ab ab':Bool}{col col':Option Bool}{dd dd':Option Q2}{k0 k1 k2 k3 k5 l0 l1 l2 l3 l5:Option be}{newId':String}
theorem MW{e:Q2}{Q:Bool->RC->Prop}(hC:h.get? C=some (excClassObj nm q C N bs bm hdct sn sub ab col dd k0 k1 k2 k3 k5 newId))(hD:h.get? D=some (excClassObj nm' q' D N' bs' bm' hdct' sn' sub' ab' col' dd' l0 l1 l2 l3 l5 newId'))(he:h.get? e=some oe)(hcls:oe.cls=.ref C)(hbase:bm'.contains (.type "BaseException")=true)(hq:Q ((RI C::bm).contains (.ref D)) ⟨h,g,d,t,os⟩):RF M A (excMatches (.ref e) (.ref D)) Q E ⟨h,g,d,t,os⟩:=by
 have hcB:(RI D::bm').contains (.type "BaseException")=true:=by rw[List.contains_cons,hbase,Bool.or_true]
 have f:=tc_notTuple;unfold excMatches;generalize hb:(RI C::bm).contains (.ref D)=b at hq;repeat (first|(with_reducible refine wpAny_loadPart_at he ?_;rw[hcls])|with_reducible refine wpAny_loadPart_at hD ?_|(with_reducible refine wpAny_isSubtype_exc hD ?_;rw[hcB])|(with_reducible refine wpAny_isSubtype_exc hC ?_;rw[hb])|wp_step)
 cases b<;>(wp_walk;exact hq)
end
section
def nv (X:Cx)(P6:RA)(H:Hp)(b:Q2):Prop:=H b=none/\X.s₀.heap.get? b=none/\b≠X.env.locals/\(∀ x c,X.env.cells.lookup x=some c->c≠b)/\(∀ p∈X.pn++P6,p.1≠b)
theorem Dj(I:am X P6 σ H1 s)(hex:X.ex=[])(n:s.heap.get? b=none)(hH:H b=none):nv X P6 H b:=by
 refine⟨hH,?_,λz=>?_,λx c e z=>?_,λp hp z=>?_⟩
 ·cases q:X.s₀.heap.get? b with|none=>rfl|some o=>obtain⟨u,hu⟩:=I.base.there b o q (by rw[hex];simp);rw[n]at hu;cases hu
 ·subst z;obtain⟨m,⟨o,es,ep,ho,_⟩,_⟩:=I.loc;rw[n]at ho;cases ho
 ·subst z;obtain⟨v,o,ho,_⟩:=I.cell x c e;rw[n]at ho;cases ho
 ·have:=(I.pin p hp).1;rw[z,n]at this;cases this
theorem am.shift(I:am X P6 σ H s)(keep:∀ b o,s.heap.get? b=some o->b∉dQ X.stack->b∉as->h'.get? b=some o)(slot:∀ b o,s.heap.get? b=some o->b∈dQ X.stack->b∉as->∃ sl,h'.get? b=some {o with slots:=sl})(has:∀ b∈as,nv X P6 H b):am X P6 σ H {s with heap:=h'}:=by
 have up:∀ b o,s.heap.get? b=some o->b∉as->∃ sl,h'.get? b=some {o with slots:=sl}:=λb o e n=>by
  by_cases m:b∈dQ X.stack
  ·exact slot b o e m n
  ·exact⟨o.slots,keep b o e m n⟩
 have neL:∀ b o,X.s₀.heap.get? b=some o->b≠X.env.locals:=λb o e=>OH (Ov (PD e) I.ok.above);have neA:∀ b o,X.s₀.heap.get? b=some o->b∉as:=λb o e m=>by rw[(has b m).2.1]at e;cases e
 have stk:∀ b,b≠X.env.locals->b∉X.fs->b∉dQ X.stack:=λb n1 n m=>(Oe.mp (I.stkSub b m)).elim n1 n;have cellK:∀ x c,X.env.cells.lookup x=some c->∀ v,s.heap.IsCell c v->h'.IsCell c v:=λx c e v ⟨o,ho,hd⟩=>by obtain⟨sl,q⟩:=up c o ho (λz=>(has c z).2.2.2.1 x c e rfl);exact⟨_,q,hd⟩
 refine⟨I.ok,I.os,I.bare,⟨λb o e n hb hx=>?_,λb o e n hb hx=>?_,I.base.free,λb o e hx=>?_,I.base.tups,I.base.frzs,I.base.tbls⟩,?_,λx c e=>?_,I.free,I.freeC,λp hp=>?_,λb u e=>?_,I.len⟩
 ·exact keep b o (I.base.keep b o e n hb hx) (stk b (neL b o e) hb) (neA b o e)
 ·obtain⟨sl,e1⟩:=I.base.slot b o e n hb hx;obtain⟨sl',e2⟩:=up b _ e1 (neA b o e);exact⟨sl',e2⟩
 ·obtain⟨o',e1⟩:=I.base.there b o e hx;obtain⟨sl,e2⟩:=up b o' e1 (neA b o e);exact⟨_,e2⟩
 ·obtain⟨m,⟨o,es,ep,ho,r⟩,hl⟩:=I.loc;obtain⟨sl,hL⟩:=up _ o ho (λz=>(has _ z).2.2.1 rfl);refine⟨m,⟨_,es,ep,hL,r⟩,λi x v e1 e2 e3=>?_⟩;obtain⟨u,r,l⟩:=hl i x v e1 e2 e3;nomatch u,r;rcases l with l|⟨l,c,e,z⟩
  ·exact .inl l
  ·exact .inr ⟨l,c,e,cellK x c e _ z⟩
 ·obtain⟨v,z⟩:=I.cell x c e;exact⟨v,cellK x c e v z⟩
 ·obtain⟨e,n,ne,nf,d⟩:=I.pin p hp;exact⟨keep _ _ e (stk _ ne nf) (λm=>(has _ m).2.2.2.2 p hp rfl),n,ne,nf,d⟩
 ·refine(I.hok b u e).stay (λc v hc q=>keep c v q (λm=>?_) (λm=>?_)) (λ_ q=>q) λ_ _ q=>q
  ·have:=I.stkFree c m;rcases hc with z|z
   ·subst z;rw[e]at this;cases this
   ·rw[z]at this;cases this
  ·have:=(has c m).1;rcases hc with z|z
   ·subst z;rw[e]at this;cases this
   ·rw[z]at this;cases this
end
def XP (X:Cx)(P6:RA)(σ:St)(E:XK)(e:be)(s':RC):Prop:=∃ a C H' s1 H1,e=.ref a/\am X P6 σ H1 s1/\am X P6 σ H' s'/\Bo s1.heap s'.heap H' a C/\E C none H'
def uT (X:Cx)(e:Expr)(t:XK->TE):Prop:=∀(P6:RA) (s:RC) (σ:St) (H:Hp) (Q:VK) (E:XK),am X P6 σ H s->t E σ H Q->RF (RK X.prog X.w) X.A (RS e X.env) (EP X P6 σ Q) (XP X P6 σ E) s
def Bk (X:Cx)(st:RM)(t:XK->TS):Prop:=∀(P6:RA) (s:RC) (σ:St) (H:Hp) (D:bG) (E:XK),am X P6 σ H s->t E D σ H->RF (RK X.prog X.w) X.A (exec st X.env) (SP X P6 D) (XP X P6 σ E) s
def sw (X:Cx)(st:List RM)(t:XK->TS):Prop:=∀(P6:RA) (s:RC) (σ:St) (H:Hp) (D:bG) (E:XK),am X P6 σ H s->t E D σ H->RF (RK X.prog X.w) X.A (execs st X.env) (SP X P6 D) (XP X P6 σ E) s
theorem uJ{t:Sem α}{Q Q':α->RC->Prop}{E:be->RC->Prop}(h:RF M A t Q (λ_ _=>False) s)(hQ:∀ a s,Q a s->Q' a s):RF M A t Q' E s:=PL h hQ λ_ _ x=>x.elim
section
variable {k j:Nat}{f:Q2}{ps:List Str}{m:Str}{o:Expr}{t:TA}
theorem Ia (F:ce X.prog X.w X.K X.mg X.base (cI X.prog X.w) k f fd ps sp)(hr:aS k X.A)(hb:f_ X.K fd ps [])(I:am X P6 σ H s)(r:ay vs us)(h:sp vs H Q E):
  RF (RK X.prog X.w) X.A (call (.ref f) us) (EP X P6 σ Q) (XP X P6 σ E) s:=by
 have hl:(us++[]).length=ps.length:=by rw[OP,<-r.length];exact F.len _ _ _ _ h
 refine P5 (P3 (F.run X.A X.stack s H ⟨us,[]⟩ us vs Q E hr I.env0 (by have:=hb s us I.kIn hl;rwa [OP]at this) r h) λr s' hq=>?_);cases r with
 |error e=>obtain⟨a,C,H3,rfl,os,bare,un,hok,F,q⟩:=hq;exact⟨a,C,H3,s,H,rfl,I,I.call' os un hok bare (λb z=>OE z (by simp)),F,q⟩|ok fl=>cases fl with
  |ret u=>exact I.after hq|next=>exact OR hq|brk=>exact OR hq|cont=>exact OR hq
theorem H_(G:bF (cI X.prog X.w) X.prog X.w X.K X.mg X.base C m ps j sp)(c:fH X.K C)(hr:aS k X.A)(ho:PE X.nox o ta)(ha:PA X.nox (e::es) t)(hj:↥(j<=k))(hst:⇑(RE (e::es) X.env=(false,RS e X.env)::RE es X.env))(hpl:⇑((RZ pos (RE es X.env)).any (·.1)=false))(ht:⇑(RS (.Call (.Attribute o m apos) (e::es) [] pos) X.env=(do
   let ov<-RS o X.env
   standAt apos.atName
   let (f,first)<-holding [ov] (getMethod ov m pl)
   callWith pos f first (RZ pos (RE (e::es) X.env)) (backToKw pos (Sy [] X.env))))):
  uT X (.Call (.Attribute o m apos) (e::es) [] pos) (λE=>nG C m sp [] E ta t):=by obtain⟨f,fd,M,F,hb⟩:=G.ex;intro P6 s σ H Q E I h;refine PySem.W.methodCall_KW (pl:=pl) (uJ (ho P6 s σ H _ (I.wish _) h) λu s1 ⟨x,H1,I1,rx,a,dx,fs,ex,ea,l,q⟩=>?_) ht;subst ex;obtain rfl:u=RI a:=rx;refine ui I1.unwish ea c M l ?_;refine PySem.W.callWith_K (first:=[.ref a]) (h₀:=X.base) I.ok.mod.kin M.kp (uJ (ha pos P6 s1 σ H1 _ I1 q) λus s2 ⟨vs,H2,I2,r,q2⟩=>⟨I2.unwish.kIn,?_⟩) hst hpl;have q':sp (V.ref a::(vs++[])) H2 Q E:=q2;rw[OP]at q';exact Ia (us:=.ref a::us) (vs:=.ref a::vs) F (hr.mono hj) hb I2.unwish (.cons rfl r) q'
theorem Gy (G:uV X.prog X.w X.K X.mg X.base x C ps j sp)(hr:aS k X.A)(hg:Gl X x)(ha:PA X.nox (e::es) t)(hj:↥(j+1<=k))(hdb:↥((x==("__debug__":Str))=false))
  (he:⇑(RE (e::es) X.env=(false,RS e X.env)::RE es X.env)) (hpl:⇑((RZ pos (RE es X.env)).any (·.1)=false)):uT X (.Call (.Name x p) (e::es) [] pos) (λE=>mf C sp [] E t):=by
 obtain⟨f,fd,M,F,hb,hm⟩:=G.ex;intro P6 s σ H Q E I h;refine PY (my I hg hm ?_ hdb);refine PySem.W.callWith_K (h₀:=X.base) I.ok.mod.kin M.kp (uJ (ha pos P6 s σ H _ (I.wish _) h) λus s1 ⟨vs,H1,I1',r,h⟩=>⟨I1'.unwish.kIn,?_⟩) he hpl;have I1:=I1'.unwish;have hq:=h (s1.heap.objs.size+1) s1.heap.objs.size (I1.hok.fresh (Nat.le_succ _)) (I1.hok.fresh (On _)) (OH (Px _));rw[OP]at hq;have I2:=am.made (C:=C) I1;have r2:ay (V.ref (s1.heap.objs.size+1)::vs) (RI (s1.heap.objs.size+1)::us):=.cons rfl r;have hl:(RI (s1.heap.objs.size+1)::us++[]).length=ps.length:=by have e:=r2.length;rw[F.len _ _ _ _ hq]at e;rw[OP];exact e.symm
 refine P5 (Dw (f:=f) I1.kIn M.makes M.init (Pd.mp M.fn) (P3 (F.run _ X.stack _ _ ⟨RI (s1.heap.objs.size+1)::us,[]⟩ (RI (s1.heap.objs.size+1)::us) _ _ E ((hr.mono hj).make C us [])
  (I2.env0.make C us []) (by have:=hb _ (RI (s1.heap.objs.size+1)::us) I2.kIn hl;rwa [OP]at this) r2 hq) λr s' hq'=>?_))
 cases r with
 |error e=>obtain⟨a,C',H3,rfl,os,bare,un,hok,F,q⟩:=hq';exact⟨a,C',H3,_,_,rfl,I2,I2.call' os un hok bare (λb z=>OE z (by simp)),F,q⟩|ok fl=>cases fl with
  |ret u=>obtain⟨v,H',I3,rv,ev,q3⟩:=I2.after hq';subst ev;exact⟨rv,⟨V.ref (s1.heap.objs.size+1),H',I3,rfl,q3⟩⟩|next=>exact OR hq'|brk=>exact OR hq'|cont=>exact OR hq'
variable {te:XK->TE}{tt uu:XK->TS}
theorem JS (he:uT X e te)(hs:⇑(swapsWith e none pos.line X.env=So false)):Bk X (.Expr e pos) (λE=>vm (te E)):=by intro P6 s σ H D E I h;exact wpAny_Expr_any (aL (he P6 s σ H _ E I h) λv s1 ⟨x,H1,I1,r1,q1⟩=>⟨σ,H1,I1,q1⟩) I.quiet hs
theorem HZ (he:uT X e te):Bk X (.Return (some e) pos) (λE=>gJ (te E)):=by intro P6 s σ H D E I h;exact wpAny_Return_some (aL (he P6 s σ H _ E I h) λv s1 ⟨x,H1,I1,r1,q1⟩=>⟨x,σ,H1,I1,r1,q1⟩)
theorem Di (h1:Bk X st tt):sw X [st] tt:=by intro P6 s σ H D E I h;refine wpAny_execs_cons (aL (h1 P6 s σ H D E I h) λf s1 q=>?_);cases f with
 |next=>exact P0 q|ret v=>exact q|brk=>exact q|cont=>exact q
end
section
variable {C:be}
structure cx (X:Cx)(P6:RA)(σ:St)(H:Hp)(a:Q2)(C:be)(s:RC):Prop where
 ex:∃(s':RC) (T T':Q2),am X P6 σ H s'/\nv X P6 H a/\nv X P6 H T/\s'.heap.get? T'=none/\(∃ h',s={s' with heap:=h'})/\lj s.heap a T' C .none/\mr (dQ X.stack) [a,T] s'.heap s.heap
theorem cx.inv (R:cx X P6 σ H a C s):am X P6 σ H s:=by
 obtain⟨s',T,T',I,ha,hT,_,⟨h',rfl⟩,F,U⟩:=R.ex;refine I.shift (as:=[a,T]) U.1 U.2 (λb m=>?_);rcases Oe.mp m with z|z
 ·subst z;exact ha
 ·rw[bn.mp z];exact hT
theorem cx.apart (R:cx X P6 σ H a C s):nv X P6 H a:=by obtain⟨s',T,T',I,ha,hT,_,⟨h',rfl⟩,F,U⟩:=R.ex;exact ha
theorem cx.obj (R:cx X P6 σ H a C s):∃ oe vs,s.heap.get? a=some oe/\(oe.cls=C/\oe.dict=none)/\oe.data=.fields vs:=by obtain⟨s',T,T',I,ha,hT,_,_,F,U⟩:=R.ex;obtain⟨oe,vs,oT,ts,h1,h2,h3,h4,_⟩:=F;exact⟨oe,vs,h1,⟨h2,h3⟩,h4⟩
theorem cx.objN (R:cx X P6 σ H a C s):∃ oe vs,s.heap.get? a=some oe/\(oe.cls=C/\oe.dict=none)/\oe.data=.fields vs/\vs[2]?=some .none:=by obtain⟨s',T,T',I,ha,hT,_,_,F,U⟩:=R.ex;obtain⟨oe,vs,oT,ts,h1,h2,h3,h4,_,_,_,_,_,h5⟩:=F;exact⟨oe,vs,h1,⟨h2,h3⟩,h4,h5⟩
theorem cx.again{E:be->RC->Prop}{Q:Unit->RC->Prop}(R:cx X P6 σ H a C s)(k:∀ s2,cx X P6 σ H a C s2->Q () s2):RF M A (setFlight (.ref a) none) Q E s:=by obtain⟨s',T,T',I,ha,hT,n,⟨h',rfl⟩,F,U⟩:=R.ex;refine tS (fr:=dQ X.stack) F λh2 F2 U2=>k _ ⟨s',T,T',I,ha,hT,n,⟨h2,rfl⟩,F2,⟨λb o e m1 m2=>U2.1 b o (U.1 b o e m1 m2) m1 (λz=>by rw[bn.mp z,n]at e;cases e),λb o e m1 m2=>?_⟩⟩;obtain⟨sl,e1⟩:=U.2 b o e m1 m2;obtain⟨sl2,e2⟩:=U2.up e1 (λz=>by rw[bn.mp z,n]at e;cases e);exact⟨sl2,e2⟩
theorem LD{E':be->RC->Prop}{e:be}{Q:RC->Prop}(hex:X.ex=[])(hst:X.stack=X.env::X.outer)(hf:X.env.frame=some X.env.locals)(h:XP X P6 σ E e s)(k:∀ a C H' s3,e=.ref a->cx X P6 σ H' a C s3->E C none H'->Q s3):
  RF (RK X.prog X.w) X.A (noteFrame e X.env) (λ_ s2=>RF (RK X.prog X.w) X.A (setFlight e none) (λ_ s3=>Q s3) E' s2) E' s:=by
 obtain⟨a,C,H',s1,H1,rfl,I1,I',⟨T,F,hx,hT,hx0,hT0⟩,q⟩:=h;have hfr:X.A.frames=some (X.env::X.outer):=by rw[<-hst];exact I'.ok.frames
 refine Dk (outer:=X.outer) (base:=X.base) hfr (by rw[<-hst];exact I'.stack) hf F λh1 T1 n1 F1 U1=>?_;rw[<-hst]at U1;refine tS (fr:=dQ X.stack) F1 λh2 F2 U2=>k a C H' _ rfl ⟨s,T,T1,I',Dj I1 hex hx0 hx,Dj I1 hex hT0 hT,n1,⟨h2,rfl⟩,F2,⟨λb o e m1 m2=>U2.1 b o (U1.1 b o e m1 m2) m1 (λz=>by rw[bn.mp z,n1]at e;cases e),λb o e m1 m2=>?_⟩⟩ q;obtain⟨sl,e1⟩:=U1.2 b o e m1 m2;obtain⟨sl2,e2⟩:=U2.up e1 (λz=>by rw[bn.mp z,n1]at e;cases e);exact⟨sl2,e2⟩
def XH (X:Cx)(a:Q2)(o:Obj):Cx:={X with A:=X.A.mark (some (.ref a)),calm:=false,pn:=(a,o)::X.pn,xe:=λ_ _=>False}
variable {o:Obj}
theorem am.held(I:am X P6 σ H s)(ho:s.heap.get? a=some o)(ap:nv X P6 H a)(nc:∀ v,o.data≠.cell v):am (XH X a o) P6 σ H s:=by
 have ok:=I.ok;refine⟨⟨ok.mod,ok.kind,ok.glob,ok.blt,ok.above,ok.inj,ok.has,ok.cab,(λz=>OE z Ox),ok.frames,ok.stk,ok.exf,ok.bs,ok.bsz,ok.noex,ok.exfs,ok.funs,ok.frf⟩,I.os,I.bare,I.base,I.loc,I.cell,I.free,I.freeC,λp hp=>?_,I.hok,I.len⟩;have hp':p∈(a,o)::(X.pn++P6):=hp;rcases Oe.mp hp' with z|z
 ·subst z;refine⟨ho,ap.1,ap.2.2.1,λm=>?_,nc⟩;obtain⟨_,o2,h2,_⟩:=ok.funs.mem m;have:=ap.2.1;rw[h2]at this;cases this
 ·exact I.pin p z
theorem am.unheld(ok:X.Ok)(I:am (XH X a o) P6 σ H s):am X P6 σ H s:=⟨ok,I.os,I.bare,I.base,I.loc,I.cell,I.free,I.freeC,λp hp=>I.pin p (Oo _ hp),I.hok,I.len⟩
theorem SP.unheld{D:bG}{f:Flow}(ok:X.Ok)(h:SP (XH X a o) P6 D f s):SP X P6 D f s:=by cases f with
 |next=>obtain⟨σ',H',I,q⟩:=h;exact⟨σ',H',I.unheld ok,q⟩|brk=>obtain⟨σ',H',I,q⟩:=h;exact⟨σ',H',I.unheld ok,q⟩|cont=>obtain⟨σ',H',I,q⟩:=h;exact⟨σ',H',I.unheld ok,q⟩|ret u=>obtain⟨v,σ',H',I,r,q⟩:=h;exact⟨v,σ',H',I.unheld ok,r,q⟩
end
def PH (X:Cx)(hs:List ExceptHandler)(t:be->Q2->TS):Prop:=∀(P6:RA) (s:RC) (σ:St) (H:Hp) (D:bG) (a:Q2) (C:be),cx X P6 σ H a C s->t C a D σ H->RF (RK X.prog X.w) X.A (handleBy (.ref a) X.env hs) (SP X P6 D) X.xe s
def qh (K:Fg)(D:Q2)(th tr:be->Q2->TS):be->Q2->TS:=λC a E σ H=>∃ Cc anc,C=.ref Cc/\kd K Cc anc/\if(RI Cc::anc).contains (.ref D)=true then th C a E σ H else tr C a E σ H
variable {th:be->Q2->TS}
section
variable {b0:RM}{suite:List RM}{rest:List ExceptHandler}{D:Q2}{tb tr:be->Q2->TS}
theorem Cj:PH X [] (λ_ _=>Hs):=λ_ _ _ _ _ _ _ _ h=>h.elim
theorem CT (eD:kd X.K D anc)(hg:Gl X x)(hm:X.mg x=some (.ref D))(hb:∀ a o,o.dict=none->N_ o->fh (XH X a o) (b0::suite) (tb o.cls a))(hr:PH X rest tr)(hd:↥((x==("__debug__":Str))=false)):
  PH X (.ExceptHandler (some (.Name x np)) none (b0::suite) pos::rest) (qh X.K D tb tr):=by
 intro P6 s σ H E a C R h;obtain⟨Cc,ancC,rfl,eC,h⟩:=h;have I:=R.inv;obtain⟨oe,vs,ho,⟨hc,_⟩,hdt⟩:=R.obj;obtain⟨nm,q,N,bs,hdct,sn,sub,ab,col,dd,k0,k1,k2,k3,k5,mN,hC,_,_,TC⟩:=eC.obj I.kIn;obtain⟨nm',q',N',bs',hdct',sn',sub',ab',col',dd',l0,l1,l2,l3,l5,mN',hD,_,_,TD⟩:=eD.obj I.kIn;refine wpAny_handleBy_cons (codeAny_handlers_test (my (X:=XH X a oe) (I.held ho R.apart (λv z=>by rw[hdt]at z;cases z)) hg hm ?_ hd)) (by intro q;cases q);obtain⟨hp,g,d,tk,os⟩:=s;refine MW hC hD ho hc (TD.hasType PySem.F.excBase_ValueError.hasBase) ?_;by_cases b:(RI Cc::ancC).contains (.ref D)=true
 ·rw[Ol b]at h;rw[b];show codeAny _ _ _ _ _;refine codeAny_handlers_suite (R.again λs2 R2=>?_);obtain⟨o2,vs2,ho2,⟨hc2,hi2⟩,hd2,hn2⟩:=R2.objN;rw[<-hc2]at h;exact uJ (hb a o2 hi2 ⟨vs2,hd2,hn2⟩ P6 s2 σ H E (R2.inv.held ho2 R2.apart (λv z=>by rw[hd2]at z;cases z)) h) λf s3 q=>q.unheld I.ok
 ·rw[Oh b]at h;rw[Bool.not_eq_true]at b;rw[b];exact hr P6 _ σ H E a _ R h
def qc (tb:XK->TS)(th:be->Q2->TS):TS:=λD σ H=>tb (λC _ H'=>∀ a,th C a D σ H') D σ H
theorem Ci{body:List RM}{h0:ExceptHandler}{hs:List ExceptHandler}{tx:XK->TS}(hex:X.ex=[])(hst:X.stack=X.env::X.outer)(hf:X.env.frame=some X.env.locals)(hb:sw X body tx)(hh:PH X (h0::hs) th):PS X (.Try body (h0::hs) [] [] pos) (qc tx th):=by
 intro P6 s σ H D I h;refine wpAny_Try_except (PL (hb P6 s σ H D _ I h) (λf s1 q=>?_) λe s1 q=>?_)
 ·cases f with|next=>exact P0 q|ret v=>exact q|brk=>exact q|cont=>exact q
 ·exact LD hex hst hf q λa C H' s3 ee R q2=>by subst ee;exact hh P6 s3 σ H' D a C R (q2 a)
end
def fE:Nat:=10 ^ 30
theorem D7(h:i.natAbs<fE):i.natAbs.log2<1920:=by
 by_cases z:i.natAbs=0
 ·rw[z];decide
 ·refine(Nat.log2_lt z).mpr (Ov h ?_);unfold fE;exact OI (by decide:10 ^ 30<=2 ^ 100) (Nat.pow_le_pow_right (n:=2) (by decide) (by decide:100<=1920))
section
end
theorem EX(h:i.natAbs<fE):(Su (toString i)).length<=32:=by have e:=int_text_length_le10 (k:=30) (by decide) h;rw[PySem.ofString_length];omega
variable {items:Array be}
section
variable {E:be->RC->Prop}
theorem Eo{t:Q2}(hne:t≠it):∀(n i:Nat) (s:RC) (Q:List be->RC->Prop),s.heap.IsListIter it t i->s.heap.IsList t items->i+n<=items.size->
  (∀ h',h'.IsListIter it t (i+n)->Heap.SameBut it s.heap h'->Q ((items.toList.drop i).take n) {s with heap:=h'})->RF (RK prog w) A (draw (.ref it) n) Q E s
 |0,i,s,Q,hit,_,_,hQ=>by show RF _ _ (So []) Q E s;exact PF (by simpa using hQ s.heap hit (Heap.SameBut.refl ..))|n+1,i,s,Q,hit,ht,hle,hQ=>by
  have hlt:i<items.size:=by omega
  show RF _ _ (pyNext (.ref it)>>=_) Q E s;refine Pz (wpAny_pyNext_list_item hit ht (x:=items[i]) (by simp[hlt]) λh₁ hit₁ hs₁=>?_);have ht₁:h₁.IsList t items:=by obtain⟨o,ho,r⟩:=ht;exact⟨o,(hs₁.2 t hne).trans ho,r⟩
  refine Pz (PV (Eo hne n (i+1) _ _ hit₁ ht₁ (by omega) λh₂ hit₂ hs₂=>PF ?_));have hd:items.toList.drop i=items[i]::items.toList.drop (i+1):=by simp[Pf,hlt]
  have:=hQ h₂ (by rw[show i+(n+1)=i+1+n by omega];exact hit₂) (hs₁.trans hs₂);rw[hd,Sw]at this;exact this
theorem Nt{t:Q2}{Q:List be->RC->Prop}(hh:A.handled=none)(ht:s.heap.IsList t items)(hQ:∀ h',Heap.ExtBut s.heap.objs.size s.heap h'->Q items.toList {s with heap:=h'}):RF (RK prog w) A (unpackItems (.ref t) items.size none) Q E s:=by
 have hlt:t≠s.heap.objs.size:=by obtain⟨o,ho,_⟩:=ht;exact OH (PD ho)
 have htp:(s.heap.push {cls:=.type "list_iterator",data:=.fields #[.ref t,.int 0 0]}).IsList t items:=by obtain⟨o,ho,r⟩:=ht;exact⟨o,PB _ ho,r⟩
 unfold unpackItems;refine Pz ?_;unfold notIterableAtAll;refine Pz (wpAny_specialOf ht.typeIs slot_list_iter.lookup ?_);refine PF ?_;simp only[Bool.false_eq_true,if_false];refine Pz (PV (wpAny_pyIter_list ht ?_));refine Pz (PV (Eo hlt items.size 0 _ _ ⟨_,PJ _ rfl,rfl,rfl⟩ htp (by omega) λh₁ hit₁ hs₁=>?_));have hall:List.take items.size (List.drop 0 items.toList)=items.toList:=by rw[List.drop_zero];exact Oy (by simp)
 rw[hall];rw[Oh (by simp)];have ht₁:h₁.IsList t items:=by obtain⟨o,ho,r⟩:=htp;exact⟨o,(hs₁.2 t hlt).trans ho,r⟩
 refine Pz (PV (wpAny_pyNext_list_end hh hit₁ ht₁ (by simp) λh₂ he₂=>?_));simp only[Option.isSome_none,Bool.false_eq_true,if_false];refine PF (hQ h₂ λb o hb e=>he₂ b o hb ((hs₁.2 b hb).trans (PB _ e)))
end
def Bz (K:Fg)(n:Nat)(t:ju):TG:=λv σ H Q=>∃ a xs,v=.ref a/\ao K H a xs/\xs.length=n/\t xs σ H Q
section
theorem HY{k:Nat}{t:ju}(hc:X.calm=true)(h:m6 X es t)(hn:⇑((R9 es X.env).length=n))(hst:⇑((R9 es X.env).findIdx? (·.1)=none)):PG X (.Tuple es k pos) (Bz X.K n t):=by intro P6 s σ H v u Q I r hw;obtain⟨a,xs,e1,hq,hl,hw⟩:=hw;subst e1;cases r;obtain⟨its,rv,ht,hz⟩:=I.list hq;rw[assign_Tuple];refine Pz (P4 ?_);unfold unpack;rw[hst,show(R9 es X.env).length=its.toArray.size by rw[hn,<-hl,rv.length,bL]];refine Pz (PV (Nt (I.ok.hd hc) ht.isList λh' hx=>?_));have I1:am X P6 σ H {s with heap:=h'}:=I.kept (t':=s.toks) λb o e=>hx b o (OH (PD e)) e;exact h P6 _ σ H xs _ Q I1 (by simpa using rv) hw
theorem HX(K:Fg){t:ju}(hc:X.calm=true)(h:m6 X es t)(hK:⇑(X.K=K))(hn:⇑((R9 es X.env).length=n))(hst:⇑((R9 es X.env).findIdx? (·.1)=none)):
  PG X (.Tuple es kk pos) (Bz K n t):=by subst hK;exact HY hc h hn hst
end
theorem aj.append:∀{ds1:List D}{vs1:Ry}{f1:Rz}{ds2:List D}{vs2:Ry}{f2:Rz},aj H ds1 vs1 f1->aj H ds2 vs2 f2->aj H (ds1++ds2) (vs1++vs2) (f1++f2)|[],_,_,_,_,_,h1,h2=>by unfold aj at h1;obtain⟨rfl,rfl⟩:=h1;exact h2|d::ds,_,_,_,_,_,h1,h2=>by unfold aj at h1;obtain⟨v,r,f,g,rfl,rfl,q1,q2⟩:=h1;rw[OW];exact aj.cany q1 (aj.append q2 h2)
theorem aj.cut:∀(i:Nat) {ds:List D}{vs:Ry}{fp:Rz},aj H ds vs fp->∃ f1 f2,fp=f1++f2/\aj H (ds.take i) (vs.take i) f1/\aj H (ds.drop i) (vs.drop i) f2|0,ds,vs,fp,h=>⟨[],fp,rfl,aj.nil,h⟩|i+1,[],_,_,h=>by unfold aj at h;obtain⟨rfl,rfl⟩:=h;exact⟨[],[],rfl,aj.nil,aj.nil⟩|i+1,d::ds,_,_,h=>by unfold aj at h;obtain⟨v,r,f,g,rfl,rfl,q1,q2⟩:=h;obtain⟨f1,f2,rfl,h1,h2⟩:=aj.cut i q2;exact⟨f++f1,f2,(OW _ _ _).symm,aj.cany q1 h1,h2⟩
theorem ak.acc(h:ak H H' (.lst ds) v):∃ a vs,v=.ref a/\H a=none/\fk H a H' ds vs:=by obtain⟨a,vs,fp,e1,e2,e3,e4,e5,e7,e6⟩:=ak.lso h;exact⟨a,vs,e1,e2,fp,e3,e4,e5,e7,e6⟩
theorem fk.get(a:fk H da H2 ds vs):H2 da=some (.lst vs):=by obtain⟨fp,h,_⟩:=a;exact h
theorem fk.len(a:fk H da H2 ds vs):ds.length=vs.length:=by obtain⟨fp,_,h,_⟩:=a;exact h.length
variable {sc:Scope}
section
variable {t:TA}
theorem dU(h:PE X (.Name x pos) te)(r:PA X es t):PA X (.Name x pos::es) (eJ te t):=dE h r rfl
theorem cM {c:Const}{k:Nat}(h:PE X (.Constant c k pos) te)(r:PA X es t):PA X (.Constant c k pos::es) (eJ te t):=dE h r rfl
variable {a:Expr}
theorem iE{o:UnaryOp}(h:PE X (.UnaryOp o a pos) te)(r:PA X es t):PA X (.UnaryOp o a pos::es) (eJ te t):=dE h r rfl
variable {b:Expr}
theorem qJ{c:Expr}(h:PE X (.IfExp a b c pos) te)(r:PA X es t):PA X (.IfExp a b c pos::es) (eJ te t):=dE h r rfl
theorem iH{g:List Comprehension}(h:PE X (.ListComp a g sc pos) te)(r:PA X es t):PA X (.ListComp a g sc pos::es) (eJ te t):=dE h r rfl
theorem Gx{o:List CmpOp}{b:List Expr}(h:PE X (.Compare a o b pos) te)(r:PA X es t):PA X (.Compare a o b pos::es) (eJ te t):=dE h r rfl
theorem bc(h:PE X (.Subscript a b pos) te)(r:PA X es t):PA X (.Subscript a b pos::es) (eJ te t):=dE h r rfl
theorem dJ {a:List Expr}(h:PE X (.List a pos) te)(r:PA X es t):PA X (.List a pos::es) (eJ te t):=dE h r rfl
theorem iU {a:List Expr}{k:Nat}(h:PE X (.Tuple a k pos) te)(r:PA X es t):PA X (.Tuple a k pos::es) (eJ te t):=dE h r rfl
theorem bw{o:Operator}(h:PE X (.BinOp a o b pos) te)(r:PA X es t):PA X (.BinOp a o b pos::es) (eJ te t):=dE h r rfl
theorem bv {f:Expr}{a:List Expr}{k:List Keyword}(h:PE X (.Call f a k pos) te)(r:PA X es t):PA X (.Call f a k pos::es) (eJ te t):=dE h r rfl
theorem dD(h:PE X (.Attribute a x pos) te)(r:PA X es t):PA X (.Attribute a x pos::es) (eJ te t):=dE h r rfl
end
structure QE (X:Cx)(e:Expr)(t:TE):Prop where
 run:PE X e t
structure QA (X:Cx)(es:List Expr)(t:TA):Prop where
 run:PA X es t
structure QS (X:Cx)(st:RM)(t:TS):Prop where
 run:PS X st t
structure m5 (X:Cx)(st:List RM)(t:TS):Prop where
 run:fh X st t
section
variable {a b:Expr}{tb:TE}{t:TA}
theorem ku (h:QA X es t):QE X (.List es pos) (mL t):=⟨bu h.run⟩
theorem ix {op:Operator}(ho:cf X (Sh op) r)(ha:QE X a ta)(hb:QE X b tb):QE X (.BinOp a op b pos) (iu r ta tb):=⟨aK ho ha.run hb.run⟩
theorem jh (hr:jy X r)(ha:QE X a ta)(hb:QE X b tb)(hs:wF b:=by exact λ_ _=>rfl):QE X (.Subscript a b pos) (iu r ta tb):=⟨BG hr ha.run hb.run hs⟩
theorem kC:QA X [] gK:=⟨ag⟩
theorem jR(h:QE X (.Name x pos) te)(r:QA X es t):QA X (.Name x pos::es) (eJ te t):=⟨dE h.run r.run rfl⟩
theorem iM {c:Const}{k:Nat}(h:QE X (.Constant c k pos) te)(r:QA X es t):QA X (.Constant c k pos::es) (eJ te t):=⟨dE h.run r.run rfl⟩
theorem pw (h:QE X (.Subscript a b pos) te)(r:QA X es t):QA X (.Subscript a b pos::es) (eJ te t):=⟨dE h.run r.run rfl⟩
theorem sY {l:List Expr}(h:QE X (.List l pos) te)(r:QA X es t):QA X (.List l pos::es) (eJ te t):=⟨dE h.run r.run rfl⟩
theorem vP {o:Operator}(h:QE X (.BinOp a o b pos) te)(r:QA X es t):QA X (.BinOp a o b pos::es) (eJ te t):=⟨dE h.run r.run rfl⟩
end
variable {u:TS}
section
variable {rest a b:List RM}{t:TS}{tc:TT}
theorem vO (h:QE X e te):QS X (.Return (some e) pos) (gJ te):=⟨aF h.run⟩
theorem sU {c:Expr}(hc:PT X c tc)(ha:m5 X a t)(hb:m5 X b u):QS X (.If c a b pos) (jb tc t u):=⟨bb hc ha.run hb.run⟩
theorem tJ:m5 X [] sS:=⟨bp⟩
theorem pE (h:QS X st t):m5 X [st] t:=⟨aw h.run⟩
theorem kJ (h:QS X st t)(k:m5 X rest u):m5 X (st::rest) (fU t u):=⟨av h.run k.run⟩
end
theorem jH{t:TS}{D:bG}(M:St->Hp->Prop)(h:∀ NX:St->Hp->Prop,(∀ σ H,M σ H->NX σ H)->t {D with nx:=NX} σ H)(tail:∀ σ H,M σ H->u D σ H):fU t u D σ H:=h _ tail
theorem gi{t:TS}{D:bG}(h:∀ Q:Bool->Hp->Prop,Q false H->c σ H Q)(k:u D σ H):fU (jb c t sS) u D σ H:=h _ (jm k)
theorem pq{t e:TS}{D:bG}(h:∀ Q:Bool->Hp->Prop,Q true H->c σ H Q)(k:∀ NX:St->Hp->Prop,t {D with nx:=NX} σ H):fU (jb c t e) u D σ H:=h _ (jj (k _))
theorem vZ:decide (V.ref a=V.non)=false:=Oq (by intro z;cases z)
theorem tI:decide (V.non=V.non)=true:=Og rfl
theorem lq{lo hi:Option Int}(h:ao K H a xs)(q:∀ p,H p=none->Q (.ref p) (upd H p (.lst (bM xs lo hi)))):FD K (.ref a) lo hi H Q:=.inl ⟨a,xs,rfl,h,q⟩
theorem I9{k:Nat}(h:k<=xs.length):bM xs none (some (k:Int))=xs.take k:=by unfold bM;rw[HT.sIx_none,HT.sIx_nat,List.drop_zero,Nat.sub_zero,Nat.min_eq_left h]
theorem Dh{k:Nat}(h:k<=xs.length):bM xs (some (k:Int)) none=xs.drop k:=by unfold bM;rw[HT.sIx_none,HT.sIx_nat,Nat.min_eq_left h,Oy (by rw[Pr];exact On _)]
theorem En{k:Int}(h0:0<=k)(h:k.toNat<=xs.length):bM xs none (some k)=xs.take k.toNat:=by have:=I9 (xs:=xs) h;rwa [show((k.toNat:Nat):Int)=k by omega]at this
theorem Ku{k:Int}(h0:0<=k)(h:k.toNat<=xs.length):bM xs (some k) none=xs.drop k.toNat:=by have:=Dh (xs:=xs) h;rwa [show((k.toNat:Nat):Int)=k by omega]at this
theorem vN{k:Int}(h0:0<=k)(h:k<(n:Int)):gO n k=some k.toNat:=by unfold gO;rw[Ol h0,Ol h]
theorem ae.put{w:Q2}(s:ae H0 H)(h:H0 w=none):ae H0 (upd H w o):=λb u e=>by rw[aC (cj e h)];exact s _ _ e
theorem ml{xs:List α}{k:Int}{x:α}(h0:0<=k)(h:xs[k.toNat]?=some x):fg xs k=some x:=by have:=bi (j:=k.toNat) h;rwa [show((k.toNat:Nat):Int)=k by omega]at this
def Ls (H:Hp)(ka:Q2)(ls:Rw):Prop:=∃ as:Rz,H ka=some (.lst (as.map V.ref))/\as.length=ls.length/\∀(i:Nat) a l,as[i]?=some a->ls[i]?=some l->H a=some (.lst (l.map V.int))
variable {l:Rv}
theorem I8(h1:H a=some (.lst (l.map V.int)))(h2:H a=some (.lst (as.map V.ref))):l=[]:=by rw[h1]at h2;cases l with
 |nil=>rfl|cons i l=>cases as with
  |nil=>simp at h2|cons b as=>simp at h2
variable {ka:Q2}
theorem Ls.same{ls:Rw}(e:ae H H')(h:Ls H ka ls):Ls H' ka ls:=by obtain⟨as,h1,h2,h3⟩:=h;exact⟨as,e _ _ h1,h2,λi a l e1 e2=>e _ _ (h3 i a l e1 e2)⟩
theorem Ls.len{ls:Rw}(h:Ls H ka ls):∃ xs,H ka=some (.lst xs)/\xs.length=ls.length:=by obtain⟨as,h1,h2,h3⟩:=h;exact⟨_,h1,by rw[aT];exact h2⟩
theorem Ls.out{ls:Rw}(h:Ls H ka ls):∃ xs,H ka=some (.lst xs)/\xs.length=ls.length/\au K H (ls.map nums) xs:=by obtain⟨as,h1,h2,h3⟩:=h;refine⟨_,h1,by rw[aT];exact h2,au.of (by simp[h2]) λi d v e1 e2=>?_⟩;rw[aM]at e1 e2;obtain⟨l,hl,rfl⟩:=bV.mp e1;obtain⟨a,ha,rfl⟩:=bV.mp e2;exact fO.mpr ⟨a,rfl,ao.of (h3 i a l ha hl)⟩
theorem Ls.rep{ls:Rw}(h:Ls H ka ls):al K H (.lst (ls.map nums)) (.ref ka):=by obtain⟨xs,h1,_,h2⟩:=h.out (K:=K);unfold al;exact⟨ka,xs,rfl,ao.of h1,h2⟩
theorem Ls.item{ls:Rw}{i:Nat}{x:V}(h:Ls H ka ls)(e:H ka=some (.lst xs))(hx:xs[i]?=some x):∃ a l,x=.ref a/\ls[i]?=some l/\H a=some (.lst (l.map V.int)):=by obtain⟨as,h1,h2,h3⟩:=h;rw[h1]at e;cases e;rw[aM]at hx;obtain⟨a,ha,rfl⟩:=bV.mp hx;have hi:=(d7.mp ha).1;refine⟨a,ls[i]'(by omega),rfl,by simp,h3 i a _ ha (by simp)⟩
theorem ak.ls{ls:Rw}(h:ak H H' (.lst (ls.map nums)) v):∃ ka,v=.ref ka/\H ka=none/\Ls H' ka ls:=by obtain⟨a,vs,fp,rfl,ha,h1,h2,_⟩:=ak.lso h;obtain⟨e1,e2,e3⟩:=aj.lines h2;subst e1;refine⟨a,rfl,ha,fp,h1,e2,λi b l q1 q2=>?_⟩;obtain⟨l',z1,z2⟩:=e3 i b q1;rw[q2]at z1;cases z1;exact z2
variable {ds2:List D}
theorem ak.cat{p:Q2}{ds1:List D}(n1:ak H H1 (.lst ds1) (.ref a))(e1:ae H H1)(s:ae H1 H2)(n2:ak H1 H2 (.lst ds2) (.ref b))(h1:H2 a=some (.lst xs))(h2:H2 b=some (.lst ys))(hp:H2 p=none):ak H (upd H2 p (.lst (xs++ys))) (.lst (ds1++ds2)) (.ref p):=by
 obtain⟨a',vs,fp,ea,ha,g1,g2,g3,g4,g5⟩:=ak.lso n1;cases ea;obtain⟨b',vs',fq,eb,hb,k1,k2,k3,k4,k5⟩:=ak.lso n2;cases eb;have ev:xs=vs:=by rw[s _ _ g1]at h1;injection h1 with h1;injection h1 with h1;exact h1.symm
 have ev':ys=vs':=by rw[k1]at h2;injection h2 with h2;injection h2 with h2;exact h2.symm
 subst ev;subst ev';have sp:=ax hp (.lst (xs++ys));have hf:∀ b∈fp,∃ o,H1 b=some o:=aj.has _ g2;refine ak.lst ((aj.sq (s.trans sp).sq _ g2).append (aj.sq sp.sq _ k2)) (O3.mpr ⟨g3,k3,λx hx y hy z=>?_⟩) (λc hc=>?_) ((e1.trans s).free hp) (λm=>?_) aq
 ·subst z;obtain⟨o,ho⟩:=hf x hx;have:=k5 x hy;rw[ho]at this;cases this
 ·rcases bW.mp hc with hc|hc
  ·exact g5 c hc
  ·exact e1.free (k5 c hc)
 ·rcases bW.mp m with m|m
  ·obtain⟨o,ho⟩:=hf p m;rw[s _ _ ho]at hp;cases hp
  ·obtain⟨o,ho⟩:=aj.has _ k2 p m;rw[ho]at hp;cases hp
theorem ak.item{i:Nat}{x:V}(n:ak H H' (.lst ds) (.ref a))(e:H' a=some (.lst xs))(hd:ds[i]?=some d)(hx:xs[i]?=some x):ak H H' d x:=by obtain⟨a',vs,fp,ea,ha,g1,g2,g3,g4,g5⟩:=ak.lso n;cases ea;rw[g1]at e;cases e;obtain⟨f1,f2,rfl,r1,r2⟩:=aj.cut i g2;have hi:=(d7.mp hd).1;have hj:=(d7.mp hx).1;rw[Pf hi,Pf hj]at r2;unfold aj at r2;obtain⟨v,r,f,g,e1,rfl,q1,q2⟩:=r2;cases e1;rw[Om hi]at hd;cases hd;rw[Om hj]at hx;cases hx;have n2:=(O3.mp g3).2.1;exact⟨f,q1,(O3.mp n2).1,λb hb=>g5 b (Oz _ (OK _ hb))⟩
variable {ws:Rv}
theorem ak.pairT{w:Int}{t:Q2}(n:ak H H1 (nums ws) (.ref a))(ht:H1 t=none):ak H (upd H1 t (.tup [.int w,.ref a])) (.tup [.int w,nums ws]) (.ref t):=by obtain⟨a',e,h1,h2⟩:=ak.iif.mp n;cases e;have s:=ax ht (.tup [.int w,.ref a]);refine ak.tup (fp:=[a]) (aj.cint (aj.cany (f:=[a]) (fp:=[]) (ai.line (s _ _ h2)) aj.nil)) (by simp) (λb hb=>?_) aq;rw[bn.mp hb];exact h1
section
variable {ga wa:Q2}{Qw:Rv}{known:Rw}{m:Nat}
end
theorem HW{P:Nat->V->Hp->Prop}(wk:fi J H1 n P)(ls:Rw)(hn:ls.length=n)(hz:n<=sizeLine)(h9:∀ l∈ls,l.length=9)(step:∀ i x l H' (R:VK),i<n->ls[i]?=some l->ae H1 H'->P i x H'->(∀ a H3,ae H' H3->H3 a=some (.lst (l.map V.int))->R (.ref a) H3)->g x σ0 H' λσ2 H2=>te σ2 H2 R)(fin:∀ a H',ae H1 H'->H1 a=none->Ls H' a ls->Q (.ref a) H'):pe J g nC te σ0 H1 Q:=by
 intro Da hD;nomatch λi m ys H=>m=n - i/\i<=n/\ae H1 H/\H Da=some (.lst ys)/\Ls H Da (ls.take i),⟨n,rfl,O2 _,ax hD _,aq,[],aq,rfl,λi a l e _=>by simp at e⟩;rintro i m ys H ⟨rfl,hi,hs,hH,hL⟩;nomatch hH;obtain⟨as,h1,h2,h3⟩:=hL;have ey:ys=as.map V.ref:=by rw[hH]at h1;injection h1 with h1;injection h1
 subst ey;rw[O0]at h2;by_cases hlt:i<n
 ·refine .inr ⟨wk.go i H hlt hs,by rw[aT];omega,λys' H'=>(n - (i+1)<n - i/\i+1<=n/\ae H1 H'/\H' Da=some (.lst ys')/\Ls H' Da (ls.take (i+1))),λys' H' ⟨q1,q2,q3,q4,q5⟩=>⟨n - (i+1),q1,rfl,q2,q3,q4,q5⟩,λx H' hy=>?_⟩;obtain⟨s1,hp⟩:=wk.yld i H x H' hlt hs hy;have hi':i<ls.length:=by omega
  refine step i x ls[i] H' _ hlt (by simp) (hs.trans s1) hp λa H3 s3 ha=>?_;have hD3:H3 Da=some (.lst (as.map V.ref)):=s3 _ _ (s1 _ _ hH);refine⟨hD3,by omega,hlt,λb o e=>?_,aq,as++[a],by rw[aq,OF];rfl,by rw[OA,O0];simp;omega,λj b l e1 e2=>?_⟩
  ·rw[aC (cj e hD)];exact s3 _ _ (s1 _ _ (hs _ _ e))
  ·have key:H3 b=some (.lst (l.map V.int))/\l.length=9:=by
    refine⟨?_,h9 l (List.mem_of_mem_take (cq e2))⟩;rw[List.getElem?_append]at e1;split at e1
    ·rename_i hj;have hji:j<i:=by omega
     refine s3 _ _ (s1 _ _ (h3 j b l e1 ?_));rw[List.getElem?_take]at e2 ⊢;rw[Ol (by omega)]at e2;rw[Ol hji];exact e2
    ·rename_i hj;have hj0:j - as.length=0:=by have:=(d7.mp e1).1;simp at this;omega
     have hji:j=i:=by omega
     rw[hj0]at e1;simp at e1;subst e1;rw[List.getElem?_take,Ol (by omega),hji,Om hi']at e2;cases e2;exact ha
   rw[aC (λz=>by have q:=key.1;rw[z]at q;have:=I8 q hD3;rw[this]at key;exact OE key.2 (by decide))];exact key.1
 ·have e:i=n:=by omega
  subst e;refine .inl ⟨wk.stop H hs,fin _ _ hs hD ⟨as,hH,by omega,λj a l e1 e2=>h3 j a l e1 ?_⟩⟩;rw[Oy (by omega)];exact e2
theorem bS{k:Nat}(hr:aS k A):A.units+1<cLine:=by have:=hr.units;omega
variable {tx td ty:TE}
section
variable {D:bG}
theorem HV (h:td σ H λx H1=>∃ a,x=.ref a/\sJ H1 a/\ty σ H1 λy H2=>tx σ H2 λz H3=>∃ o,bh H3 a y o/\Q (o.getD z) H3):B2 td ty tx σ H Q:=h
theorem Gw (h:td σ H λx H1=>ty σ H1 λy H2=>∃ a v,x=.ref a/\bh H2 a y (some v)/\Q v H2):BQ td ty σ H Q:=h
theorem rG (h:ty σ H λy H1=>td σ H1 λx H2=>∃ a o,x=.ref a/\bh H2 a y o/\Q (.bl o.isSome) H2):qj ty td σ H Q:=h
theorem I0 (h:ty σ H λy H1=>td σ H1 λx H2=>∃ a o,x=.ref a/\bh H2 a y o/\Q (.bl (!o.isSome)) H2):CM ty td σ H Q:=h
theorem Gv (h:tv σ H λv H1=>td σ H1 λx H2=>ty σ H2 λy H3=>∃ a H4,x=.ref a/\eN H3 a y v H4/\D.nx σ H4):BP td ty tv D σ H:=h
theorem nO {trs:List (TE×TE)}(h:∀ p,H p=none->mn trs σ (upd H p (.dK [])) λps H2=>H2 p=some (.dK [])/\∃ kvs:List (bj×V),ps=kvs.map (λkv=>(kV kv.1,kv.2))/\kvs.length<=15/\Q (.ref p) (upd H2 p (.dK (eF [] kvs)))):BO trs σ H Q:=h
variable {R:List (V×V)->Hp->Prop}
theorem IZ(h:R [] H):mn [] σ H R:=h
theorem IC{tk:TE}{r:List (TE×TE)}(h:tk σ H λx H1=>tv σ H1 λy H2=>mn r σ H2 λps H3=>R ((x,y)::ps) H3):mn ((tk,tv)::r) σ H R:=h
end
theorem Ls.more{na p:Q2}{ls ms:Rw}{bs:Rz}(h:Ls H na ls)(e:H na=some (.lst xs))(hl:bs.length=ms.length)(hb:∀(i:Nat) a l,bs[i]?=some a->ms[i]?=some l->H a=some (.lst (l.map V.int)))(hp:H p=none):Ls (L2.upd H p (.lst (xs++bs.map V.ref))) p (ls++ms):=by
 obtain⟨as,h1,h2,h3⟩:=h;rw[h1]at e;cases e;refine⟨as++bs,by rw[aq,OF],by simp[h2,hl],λi a l e1 e2=>ax hp _ _ _ ?_⟩;rw[List.getElem?_append]at e1 e2;rw[<-h2]at e2;split at e1
 ·rename_i z;rw[Ol z]at e2;exact h3 i a l e1 e2
 ·rename_i z;rw[Oh z]at e2;exact hb _ a l e1 e2
theorem ou(h:H a=some (.lst (l.map V.int))):∀(i:Nat) b m,[a][i]?=some b->[l][i]?=some m->H b=some (.lst (m.map V.int)):=λi b m e1 e2=>by cases i with
 |zero=>simp at e1 e2;subst e1;subst e2;exact h|succ i=>simp at e1
theorem mH{c:Q2}{k:Rv}(h:H a=some (.lst (l.map V.int)))(h':H c=some (.lst (k.map V.int))):∀(i:Nat) b m,[a,c][i]?=some b->[l,k][i]?=some m->H b=some (.lst (m.map V.int)):=λi b m e1 e2=>by cases i with
 |zero=>simp at e1 e2;subst e1;subst e2;exact h|succ i=>cases i with
  |zero=>simp at e1 e2;subst e1;subst e2;exact h'|succ i=>simp at e1
theorem lQ{bs:Rz}{ms:Rw}(e:H a=some (.lst (bs.map V.ref)))(hl:bs.length=ms.length)(hb:∀(i:Nat) b l,bs[i]?=some b->ms[i]?=some l->H b=some (.lst (l.map V.int))):al K H (.lst (ms.map nums)) (.ref a):=(show Ls H a ms from⟨bs,e,hl,hb⟩).rep
def zr (te:TE):TE:=λσ H Q=>te σ H λx H1=>∃ i:Int,x=.int i/\i.natAbs<fE/\∀ z,Q (.str z) H1
variable {k1:Nat}{p1 p2:Pos}
section
variable {a b:Str}{k2:Nat}{p3:Pos}
theorem By (he:PE X e te)(ha:a.length<=400)(hb:b.length<=400):PE X (.JoinedStr [.Constant (.str a) k1 p1,.FormattedValue e (-1) none p2,.Constant (.str b) k2 p3] pos) (zr te):=by
 intro P6 s σ H Q I h;have e0:(R4++a).length=a.length:=by rw[strLen_append];show 0+a.length=_;omega
 refine PySem.wpAny_JoinedStr ?_;show Joins _ _ _ [RS (.Constant (.str a) k1 p1) X.env,RS (.FormattedValue e (-1) none p2) X.env,RS (.Constant (.str b) k2 p3) X.env] _ _ _;refine Calls.Constant_str ⟨a,_,rfl,by rw[e0];exact br (by omega),?_⟩;refine PySem.wpAny_FormattedValue_plain (aL (he P6 _ σ H _ (I.tok _) h) λv s1 ⟨x,H1,I1,rx,i,ex,hi,q⟩=>?_);subst ex;obtain⟨t,rfl⟩:=rx;have l2:=EX hi;have e1:((R4++a)++Su (toString i)).length=a.length+(Su (toString i)).length:=by rw[strLen_append,e0]
 have e2:(((R4++a)++Su (toString i))++b).length=a.length+(Su (toString i)).length+b.length:=by rw[strLen_append,e1]
 refine PySem.wpAny_formatField_int (D7 hi) ⟨_,_,rfl,by rw[show((R4++a)++_).length=_ from e1];exact br (by omega),?_⟩;refine Calls.Constant_str ⟨b,_,rfl,by rw[show(((R4++a)++_)++b).length=_ from e2];exact br (by omega),?_⟩;exact⟨by rw[show(((R4++a)++_)++b).length=_ from e2];exact br (by omega),.str _,H1,(((I1.tok _).tok _).tok _).tok _,⟨_,rfl⟩,q _⟩
theorem zI(h:te σ H λx H1=>∃ i:Int,x=.int i/\i.natAbs<fE/\∀ z,Q (.str z) H1):zr te σ H Q:=h
end
theorem Gu:im (cI P w) X E0:=λ_ _ _ _ _ _ _ h=>by obtain⟨_,_,_,_,_,_,_,_,_,h⟩:=h;exact h.elim
theorem IB{t:TA}(h:t σ H λvs H1=>sp vs H1 Q E):nH sp [] E t σ H Q:=by
 have e:(λ(vs:Ry) (H1:Hp)=>sp (vs++[]) H1 Q E)=λvs H1=>sp vs H1 Q E:=by funext vs H1;rw[OP]
 show t σ H λvs H1=>sp (vs++[]) H1 Q E;rw[e];exact h
theorem IA{C:be}{t:TA}{D:bG}(h:t σ H λvs H1=>vs.length<=sizeLine/\E C none H1):Ck C E t D σ H:=h
theorem fk.ext{zs:Ry}(a:fk H da H2 ds vs)(f:cE H H2)(s:ae H2 H3)(n:ak H2 H3 (.lst ds2) (.ref b))(hb:H3 b=some (.lst zs)):fk H da (upd H3 da (.lst (vs++zs))) (ds++ds2) (vs++zs):=by
 obtain⟨fp,h1,h2,h3,h4,h5⟩:=a;obtain⟨b',zs',fq,e,b0,g1,g2,g3,g4,g5⟩:=ak.lso n;cases e;have ez:zs'=zs:=by rw[g1]at hb;injection hb with hb;injection hb
 subst ez;have hd3:=s _ _ h1;have tk:=kM (o:=.lst (vs++zs')) hd3;have ndq:da∉fq:=λm=>by have:=g5 da m;rw[h1]at this;cases this
 have k1:∀ c∈fp,(upd H3 da (.lst (vs++zs'))) c=H2 c:=λc hc=>by obtain⟨o,ho⟩:=aj.has ds h2 c hc;rw[aC (show c≠da from λz=>h4 (by rw[<-z];exact hc)),ho];exact s _ _ ho
 have k2:∀ c∈fq,(upd H3 da (.lst (vs++zs'))) c=H3 c:=λc hc=>by rw[aC (show c≠da from λz=>ndq (by rw[<-z];exact hc))]
 refine⟨fp++fq,aq,(aj.frame (s.tups.trans tk) ds k1 h2).append (aj.frame tk ds2 k2 g2),O3.mpr ⟨h3,g3,λx hx y hy z=>?_⟩,λm=>(bW.mp m).elim h4 ndq,λc m=>?_⟩
 ·subst z;obtain⟨o,ho⟩:=aj.has ds h2 x hx;have:=g5 x hy;rw[ho]at this;cases this
 ·rcases bW.mp m with m|m
  ·exact h5 c m
  ·exact f c (g5 c m)
theorem Bx{tb:XK->TS}{D:bG}(h:tb (λC _ H'=>∀ a,th C a D σ H') D σ H):qc tb th D σ H:=h
open PySem.Calls
theorem vY:∀{ns:Rv}{us:List be},ns.length=us.length->(∀(j:Nat) (u:be),us[j]?=some u->∃(i:Int) (t:Tok),ns[j]?=some i/\u=Value.int i t)->ay (ns.map V.int) us
 |[],[],_,_=>.nil|[],_::_,e,_=>by simp at e|_::_,[],e,_=>by simp at e|n::ns,u::us,e,h=>by
  obtain⟨i,t,e1,e2⟩:=h 0 u rfl;have e1:n=i:=by simpa using e1
  subst e1;exact .cons ⟨t,e2⟩ (vY (by simpa using e) λj v hv=>by obtain⟨i,t,q1,q2⟩:=h (j+1) v (by simpa using hv);exact⟨i,t,by simpa using q1,q2⟩)
def Cg:Ry->Hp->VK->Prop:=λxs H Q=>∃(a:Q2) (kvs:List (bj×V)) (ns:Rv),xs=[.ref a]/\H a=some (.dK kvs)/\kvs.map (·.1)=ns.map Sum.inl/\ns.length<64/\∀(l:Q2) (ns':Rv),H l=none->ns'.Perm ns->ns'.Pairwise (·<=·)->Q (.ref l) (upd H l (.lst (ns'.map V.int)))
theorem EU(hc:X.calm=true):dC X (.builtin "sorted") Cg:=by
 intro P6 s σ H xs us Q I r h;obtain⟨a,kvs,ns,rfl,ha,hk,h64,q⟩:=h;obtain⟨u,rfl,rx⟩:=jB r;cases rx;obtain⟨z,hd,vs,rel,dd⟩:=l6 I.hok ha;obtain⟨ep,hat⟩:=dd.dictAt;have hl:=rel.length;have lk:kvs.length=ns.length:=by have:=congrArg List.length hk;simpa using this
 refine call_function_entry kind_sorted plain_sorted entry_sorted (args_sorted1 _) ?_;unfold Builtin.«sorted»;refine Pz (m:=checkCount "sorted" 1 1 _) (PF ?_);refine Pz (kdu_collect (A:=X.A.in1) (kdl_dict (knd:=eh X.prog X.w) (kvs:=vs) (ep:=ep) hd) (show X.A.in1.handled=none from I.ok.hd hc) hat (by rw[<-hl];exact z) λh' tk acc hk' hacc=>?_);have QF:acc.toList.length=vs.length:=by rw[Sv];exact hacc.1
 have vl:ay (ns.map V.int) acc.toList:=vY (by omega) λj u hu=>by
  obtain⟨k,x,hx,hk2⟩:=hacc.2 j u (by rw[<-Array.getElem?_toList];exact hu);have e:(vs.map (·.1))[j]?=some k:=by rw[aM,hx];rfl
  rw[<-rel.keys,hk,aM]at e;obtain⟨i,hi,rfl⟩:=bV.mp e;rcases i5 (show li (Sum.inl i) u=true from hk2)with⟨i',t,e,rfl⟩|⟨x',t,e,rfl⟩
  ·cases e;exact⟨i,t,hi,rfl⟩
  ·cases e
 refine Pz (wpAny_newList ?_ (by rw[QF,<-hl];exact z));have hoL:(h'.push {cls:=.type "list",data:=.seq acc.toList.toArray}).get? h'.objs.size=some (seqObj "list" acc.toList.toArray 0):=PJ _ rfl;have I1:am X P6 σ H {s with heap:=h',toks:=tk}:=I.kept hk';refine Pz (PV (wpAny_call_entry slot_list_sort ⟨_,hoL,rfl⟩ entry_list_sort (list_sort_tree hoL (Lw vl) (by omega) λout ns' a1 a2 a3=>⟨_,rfl,?_⟩) (args_list_sort _)));refine PF ⟨_,rfl,?_⟩;obtain⟨e,he⟩:=sortedHeap_at (out:=out) hoL;have zn:(ns'.map V.int).length<=sizeLine:=by rw[aT,a2.length_eq];exact br (by omega)
 refine⟨.ref h'.objs.size,_,I1.laid (a:=h'.objs.size) (t':=tk) (λb u hu=>?_) (On _) (show cS X.prog X.w _ _ _ (.lst (ns'.map V.int))from⟨zn,out.toList,e,xy a1,by rw[Array.toArray_toList];exact he⟩),rfl,q _ _ I1.fresh a2 a3⟩;have hu:h'.get? b=some u:=hu;have hlt:=PD hu;show(sortedHeap (h'.push {cls:=.type "list",data:=.seq acc.toList.toArray}) h'.objs.size acc.toList out).get? b=some u;rw[sortedHeap_old (OH hlt) (by rw[size_push'];exact Nat.lt_succ_of_lt hlt)];exact PB _ hu
def Cf:Ry->Hp->VK->Prop:=λxs H Q=>∃(a:Q2) (kvs:List (bj×V)) (ns:Rv),xs=[.ref a]/\H a=some (.dK kvs)/\kvs.map (·.1)=ns.map Sum.inl/\∀(l:Q2),H l=none->Q (.ref l) (upd H l (.lst (ns.map V.int)))
theorem KS(hc:X.calm=true):dC X (.type "list") Cf:=by
 intro P6 s σ H xs us Q I r h;obtain⟨a,kvs,ns,rfl,ha,hk,q⟩:=h;obtain⟨u,rfl,rx⟩:=jB r;cases rx;obtain⟨z,hd,vs,rel,dd⟩:=l6 I.hok ha;obtain⟨ep,hat⟩:=dd.dictAt;have hl:=rel.length;have lk:kvs.length=ns.length:=by have:=congrArg List.length hk;simpa using this
 refine kdl_call (kdl_dict (knd:=eh X.prog X.w) (kvs:=vs) (ep:=ep) hd) (I.ok.hd hc) hat (by rw[<-hl];exact z) λh' tk acc c' hk' hS' hacc=>?_;have QF:acc.toList.length=vs.length:=by rw[Sv];exact hacc.1
 have vl:ay (ns.map V.int) acc.toList:=vY (by omega) λj u hu=>by
  obtain⟨k,x,hx,hk2⟩:=hacc.2 j u (by rw[<-Array.getElem?_toList];exact hu);have e:(vs.map (·.1))[j]?=some k:=by rw[aM,hx];rfl
  rw[<-rel.keys,hk,aM]at e;obtain⟨i,hi,rfl⟩:=bV.mp e;rcases i5 (show li (Sum.inl i) u=true from hk2)with⟨i',t,e,rfl⟩|⟨x',t,e,rfl⟩
  ·cases e;exact⟨i,t,hi,rfl⟩
  ·cases e
 exact⟨.ref s.heap.objs.size,_,I.laid (t':=tk) hk' (On _) (show cS X.prog X.w _ _ _ (.lst (ns.map V.int))from⟨by rw[aT];omega,acc.toList,c',vl,by rw[Array.toArray_toList];exact hS'⟩),rfl,q _ I.fresh⟩
variable {kvs:List (bj×V)}
theorem Iz(h:H a=some (.dK kvs))(e:kvs.map (·.1)=ns.map Sum.inl)(q:∀(l:Q2),H l=none->Q (.ref l) (upd H l (.lst (ns.map V.int)))):Cf [.ref a] H Q:=⟨a,kvs,ns,rfl,h,e,q⟩
theorem EL:RQ "sorted"=some (.builtin "sorted"):=by decide+kernel
theorem CS(h:H a=some (.dK kvs))(e:kvs.map (·.1)=ns.map Sum.inl)(l:ns.length<64)(q:∀(l:Q2) (ns':Rv),H l=none->ns'.Perm ns->ns'.Pairwise (·<=·)->Q (.ref l) (upd H l (.lst (ns'.map V.int)))):Cg [.ref a] H Q:=⟨a,kvs,ns,rfl,h,e,l,q⟩
theorem Gs(h:∀ p,H p=none->Q (.ref p) (upd H p (.dK []))):B4 σ H Q:=h
theorem Em {κ:Type}[DecidableEq κ](k j:κ):∀ kvs:List (κ×V),aG (fw kvs k) j=if j=k then none else aG kvs j
 |[]=>by simp[fw,aG]|p::r=>by
  have ih:=Em k j r;by_cases e:p.1=k
  ·rw[Kc e,ih];by_cases z:j=k
   ·rw[Ol z,Ol z]
   ·rw[Oh z,Oh z,ib (λw=>z (w.symm.trans e))]
  ·rw[Kb e];by_cases w:p.1=j
   ·rw[ir w,ir w,Oh (λz=>e (w.trans z))]
   ·rw[ib w,ib w,ih]
section
variable {a:Str}
theorem vM (he:PE X e te)(ha:a.length<=400):PE X (.JoinedStr [.Constant (.str a) k1 p1,.FormattedValue e (-1) none p2] pos) (zr te):=by
 intro P6 s σ H Q I h;have e0:(R4++a).length=a.length:=by rw[strLen_append];show 0+a.length=_;omega
 refine PySem.wpAny_JoinedStr ?_;show Joins _ _ _ [RS (.Constant (.str a) k1 p1) X.env,RS (.FormattedValue e (-1) none p2) X.env] _ _ _;refine Calls.Constant_str ⟨a,_,rfl,by rw[e0];exact br (by omega),?_⟩;refine PySem.wpAny_FormattedValue_plain (aL (he P6 _ σ H _ (I.tok _) h) λv s1 ⟨x,H1,I1,rx,i,ex,hi,q⟩=>?_);subst ex;obtain⟨t,rfl⟩:=rx;have l2:=EX hi;have e1:((R4++a)++Su (toString i)).length=a.length+(Su (toString i)).length:=by rw[strLen_append,e0]
 refine PySem.wpAny_formatField_int (D7 hi) ⟨_,_,rfl,by rw[show((R4++a)++_).length=_ from e1];exact br (by omega),?_⟩;exact⟨by rw[show((R4++a)++_).length=_ from e1];exact br (by omega),.str _,H1,((I1.tok _).tok _).tok _,⟨_,rfl⟩,q _⟩
end
section
variable {k j:Nat}{ps:List Str}
theorem Gr (G:kZ X.prog X.w X.K X.mg X.base x C ps j sp)(hr:aS k X.A)(hg:Gl X x)(hj:↥(j+1<=k))(hdb:↥((x==("__debug__":Str))=false)):PE X (.Call (.Name x p) [] [] pos) (mf C sp [] E0 gK):=by obtain⟨f,fd,M,F,hb,hm⟩:=G.ex;exact JI M F (hr.mono hj) hg hm hb .nil bZ hdb
end
theorem Gq{m:Str}{t:TA}(h:ta σ H λx H1=>ig C m x H1 (t σ H1 λvs H2=>sp (x::vs) H2 Q E)):nG C m sp [] E ta t σ H Q:=by
 have e:(λ(x:V) (vs:Ry) (H2:Hp)=>sp (x::(vs++[])) H2 Q E)=λx vs H2=>sp (x::vs) H2 Q E:=by funext x vs H2;rw[OP]
 show ta σ H λx H1=>ig C m x H1 (t σ H1 λvs H2=>(λ(x:V) (vs:Ry) (H2:Hp)=>sp (x::(vs++[])) H2 Q E) x vs H2);rw[e];exact h
theorem Iy(h:td σ H λx H1=>∃ a,x=.ref a/\sJ H1 a/\ty σ H1 λy H2=>tx σ H2 λz H3=>∃ kvs k,H3 a=some (.dK kvs)/\y=kV k/\(∀ v,aG kvs k=some v->Q v (upd H3 a (.dK (fw kvs k))))/\(aG kvs k=none->Q z H3)):B1 td ty tx σ H Q:=h
theorem N1(h: ~~~(N.Nodup)):N.Nodup:=h
theorem bB.m(kind:⇑(scope.kind=.function))(nocell: ~~~(∀ y∈scope.names,y.2≠.cell))(nm: ~~~(∀ y∈scope.names,y.2=.local->scope.names.lookup y.1=some .local))(fr: ~~~(∀ y∈scope.names,y.2=.free->sc0.names.lookup y.1=some .cell\/sc0.names.lookup y.1=some .free))(len:⇑(ms.length=N'.length))(sl: ~~~(lC N scope N' ms (N.map some)=true)):bB sc0 N scope N' ms:=bB.mk' kind nocell nm fr len sl
section
variable {k:Nat}
end
def qd (K:Fg)(ta:TE):TT:=λσ H Q=>ta σ H λx H'=>∃ k,jr K x H' k/\Q k H'
theorem vA{a:Expr}(K:Fg)(ha:PE X a ta)(hK:⇑(X.K=K))(he:autoParam (∀ Ql,isTrue a X.env Ql=(do let v<-Ql;standAt a.pos;holding [v] (truthy v))) lR):PT X a (qd K ta):=by subst hK;exact JL ha he
theorem q_{Q:Bool->Hp->Prop}(h:ta σ H λx H'=>∃ k,jr K x H' k/\Q k H'):qd K ta σ H Q:=h
theorem vL{P:Bool->Prop}(h:ao K H a xs)(q:P (!xs.isEmpty)):∃ k,jr K (.ref a) H k/\P k:=⟨_,.inl ⟨xs,h,rfl⟩,q⟩
theorem Bw(h:H a=some (.lst xs))(e:xs[xs.length - 1]?=some y)(q:Q y (upd H a (.lst xs.dropLast))):qx (.ref a) [] H Q:=⟨a,xs,y,rfl,rfl,h,e,q⟩
theorem Gp(h:H a=some (.lst (y::xs)))(q:Q y (upd H a (.lst xs))):B5 (.ref a) [.int 0] H Q:=⟨a,y::xs,0,0,y,rfl,rfl,h,by decide,by decide,by unfold seqIndex?;simp,rfl,q⟩
mutual
theorem ai.hasL {H:Hp}:∀(d:D) {v:V}{fp:Rz},ai H d v fp->∀ a∈fp,∃ xs,H a=some (.lst xs)
 |.non,_,_,h,a,m=>by unfold ai at h;rw[h.2]at m;cases m|.bl _,_,_,h,a,m=>by unfold ai at h;rw[h.2]at m;cases m|.int _,_,_,h,a,m=>by unfold ai at h;rw[h.2]at m;cases m|.str _,_,_,h,a,m=>by unfold ai at h;rw[h.2]at m;cases m|.lst ds,_,_,h,b,m=>by
  unfold ai at h;obtain⟨a,xs,r,h1,h0,h2,h3⟩:=h;subst h0;rcases Oe.mp m with rfl|m
  ·exact⟨_,h2⟩
  ·exact aj.hasL ds h3 b m|.tup ds,_,_,h,b,m=>by unfold ai at h;obtain⟨a,xs,h1,h2,h3⟩:=h;exact aj.hasL ds h3 b m
theorem aj.hasL {H:Hp}:∀(ds:List D) {vs:Ry}{fp:Rz},aj H ds vs fp->∀ a∈fp,∃ xs,H a=some (.lst xs)
 |[],_,_,h,a,m=>by unfold aj at h;rw[h.2]at m;cases m|d::ds,_,_,h,b,m=>by
  unfold aj at h;obtain⟨v,r,f,g,h1,h0,h2,h3⟩:=h;subst h0;rcases bW.mp m with m|m
  ·exact ai.hasL d h2 b m
  ·exact aj.hasL ds h3 b m
end
structure Kn (u:TS)(D:bG)(NX:St->Hp->Prop):Prop where
 on:∀ σ H,u D σ H->NX σ H
theorem zD{t:TS}{D:bG}(h:∀ NX:St->Hp->Prop,Kn u D NX->t {D with nx:=NX} σ H):fU t u D σ H:=h _ ⟨λ_ _ q=>q⟩
theorem rM{D:bG}{NX:St->Hp->Prop}(k:Kn u D NX)(h:u D σ H):NX σ H:=k.on _ _ h
theorem rC{t:TS}{D:bG}(h:∀ T:St->Hp->Prop,Kn t D T->∀ U:St->Hp->Prop,Kn u D U->c σ H λb H1=>if b=true then T σ H1 else U σ H1):jb c t u D σ H:=h _ ⟨λ_ _ q=>q⟩ _ ⟨λ_ _ q=>q⟩
theorem Gn{n:Str}{ps:Arguments}{b:List RM}(h:aW K a=some (vn n q ps b sc))(hc:aV K a q=true):
  ∃ oc od sl kV dc pm an cd ct,K.lookup a=some ⟨oc,od,.func (fnOf n q ps b sc .none kV dc pm an cd ct),sl⟩/\codeIn K cd q=true/\keepIn K (.ref a)=true:=by
 unfold aW at h;unfold aV at hc;split at h
 ·rename_i oc od f sl e;rw[e]at hc;simp only[Of]at hc;obtain⟨c1,c2⟩:=hc;obtain⟨f1,f2,f3,f4,f5,f6,f7,f8,f9,f10,f11,f12,f13,f14,f15⟩:=f;have h:=OL h;unfold vn at h;simp only[Prod.mk.injEq]at h;obtain⟨rfl,rfl,rfl,rfl,rfl,rfl,rfl,rfl,rfl⟩:=h;exact⟨oc,od,sl,_,_,_,_,_,_,e,c1,c2⟩
 ·cases h
theorem pp(h:mq K C bm newId=true):
  ∃ nm q N bs hdct sn sub ab col dd k0 k1 k2 k3 k5,K.lookup C=some (excClassObj nm q C N bs bm hdct sn sub ab col dd k0 k1 k2 k3 k5 newId):=by
 unfold mq at h;split at h
 ·rename_i cl dd c sl e;simp only[Of]at h;obtain⟨⟨⟨h1,h2⟩,h3⟩,h4⟩:=h;obtain⟨c1,c2,c3,c4,c5,c6,c7,c8,c9,c10,c11⟩:=c;have h1:=eq_of_beq h1;have h2:c3=.ref C::bm:=eq_of_beq h2;have h30:c11=false:=by cases c11<;>first|rfl|cases h3
  subst h1 h2 h30;split at h4
  ·rename_i k0 k1 k2 k3 v k5 es;have h4:=eq_of_beq h4;subst h4;have es:sl=#[k0,k1,k2,k3,some (.builtin newId),k5]:=by rw[<-Array.toArray_toList (xs:=sl),es]
   subst es;exact⟨_,_,_,_,_,_,_,_,_,_,_,_,_,_,_,e⟩
  ·cases h4
 ·cases h
theorem sX{vs:List be}(h:nY K a vs=true):∃ dd n ss,K.lookup a=some ⟨.type "tuple",dd,.seq vs.toArray n,ss⟩:=by
 unfold nY at h;split at h
 ·rename_i cl dd xs n ss e;simp only[Of]at h;obtain⟨h1,h2⟩:=h;have h1:=eq_of_beq h1;have h2:xs.toList=vs:=eq_of_beq h2;subst h1 h2;exact⟨dd,n,ss,by rw[Array.toArray_toList];exact e⟩
 ·cases h
theorem i_{l:PySem.W.OpenLaw}{k:Nat}{q:RP}{loose:List Str}{XP:(Str->Option be)->RW->Prop}{YP:R3->RW->Prop}{d:DefRec}{S:Fg->Prop}{sp:Fg->Sp}(hn:l.most=some n)(hn2:n<=sizeLine)(hdf:d.params.defaults=[])(hr:aS k callerA)(hY:∀(w:R3) (h:RW),YP w h->∃ K:Fg,K.In h/\S K)(F:∀(w:R3) (K:Fg) (mg:Str->Option be) (fa:Q2) (h:RW),S K->K.In h->h.Ns RJ mg->mg d.name=some (.ref fa)->
   ∃ fd:FuncData,(∀(s:RC) (u:be),BindsTo s fd ⟨[u],[]⟩ [(x,u)])/\
    ∀ base:RW,K.In base->base.Ns RJ mg->ce l.prog w K mg base CX k fa fd [x] (sp K))(hsp:∀(K:Fg) (H:Hp) (a:Q2) (ns:Rv),ns.length<=n->m7 H->ao K H a (ns.map V.int)->sp K [.ref a] H (λv _=>v=.bl true) λ_ _ _=>False)(hCX:∀(H:Hp) (s:RC) (e:be) (s':RC),CX [] H s (λ_ _ _=>False) e s'->False):
  PySem.W.WalkO q loose XP YP l.row.toRowW d [] (λf vs=>PySem.call f vs):=by refine Att.attach_call hn hdf λw s₀ s₁ mg mb fa o pm cd doc a vs ns G Y ho hd hcd hmg hobj hints hlen hg=>?_;obtain⟨K,KX,hS⟩:=hY w _ Y;obtain⟨fd,hb,hF⟩:=F w K mg fa _ hS KX G.T.g hmg;exact JC KX G.T.g G.T.b G.T.builtins G.T.nolimit hg hobj hints (OI hlen hn2) hr hF hb (λH hO hS=>hsp K H a ns hlen hO hS) λH e s'=>hCX H s₁ e s'
end L2
set_option maxHeartbeats 0
namespace L2
open PySem PySem.Spec PySem.Calls PyProof.Rows
variable {a:Q2}{prog:RP}{w:R3}{A:Sn}{E:be->RC->Prop}{h:RW}{g:Array GenState}{d:Drawn}{os:OsState}{o:Obj}
section
variable {t:Nat}
end
variable {n:Nat}
section
variable {t:Nat}{its:Array be}
end
section
variable {prog:RP}{w:R3}{K:Type} [DecidableEq K] {knd:KeyKind prog w K}{A:Sn}
end
section
variable {prog:RP}{w:R3}{K:Type} [DecidableEq K] {knd:KeyKind prog w K}{A:Sn}{E:be->RC->Prop}{s:RC}
end
open PySem.W
def qy:R2:=λx y H Q=>∃ i j,x=.bl i/\y=.bl j/\Q (.bl (!decide (i=j))) H
variable {X:Cx}
theorem Iw:cf X (RO .IsNot) qy:=by intro P6 s σ H x y v u Q I rx ry h;obtain⟨i,j,rfl,rfl,q⟩:=h;cases rx;cases ry;exact isnot_bool (cQ I q (by cases i<;>cases j<;>rfl))
variable {s:RC}
section
variable {R:Result->RC->Prop}
end
open PySem.SeqAt
variable {H:Hp}{σ:St}
section
variable {k:Nat}{P6:RA}
end
variable {α:Type}{xs:Ry}
theorem ff{F:Q2->Hp->α->Prop}{k:Q2->α}(h:∀ p H',ae H H'->H' p=some (.lst xs)->F p H' (k p))(hl:xs.length<=sizeLine:=by exact br (by simp)):xs.length<=sizeLine/\∀ p,H p=none->F p (upd H p (.lst xs)) (k p):=⟨hl,λp hp=>h p _ (ax hp _) aq⟩
theorem mX{F:Q2->Hp->α->Prop}{k:Q2->α}(h:∀ p H',ae H H'->H' p=some (.tup xs)->F p H' (k p))(hl:xs.length<=sizeLine:=by exact br (by simp)):xs.length<=sizeLine/\∀ p,H p=none->F p (upd H p (.tup xs)) (k p):=⟨hl,λp hp=>h p _ (ax hp _) aq⟩
variable {te:TE}{pos:Pos}{x:Str}{sp:Sp}
section
variable {a b e:Expr}{ta tb:TE}{p:Pos}{es:List Expr}{t:TA}{k j:Nat}{ps:List Str}{r:R2}{op:CmpOp}
theorem jx (K:Fg)(ha:PE X a ta)(hb:PE X b tb)(hK:⇑(X.K=K))(hs:wF b:=by exact λ_ _=>rfl):PE X (.Subscript a b pos) (iu (mO K) ta tb):=BG (iA K hK) ha hb hs
theorem jp (K:Fg)(ha:PE X a ta)(hb:PE X b tb)(hK:⇑(X.K=K)):PE X (.BinOp a .Add b pos) (iu (nA K) ta tb):=aK (tf K hK) ha hb
theorem jc (ho:cf X (RO op) r)(ha:PE X a ta)(hb:PE X b tb)(hm:Ss op b=false:=by first|exact tu _|rfl):PT X (.Compare a [op] [b] pos) (oX (iu r ta tb)):=C0 ho ha hb hm
theorem jv (ho:cf X (RO op) r)(ha:PE X a ta)(hb:PE X b tb)(hm:Ss op b=false:=by first|exact tu _|rfl):PE X (.Compare a [op] [b] pos) (iu r ta tb):=C1 ho ha hb hm
theorem jt (K:Fg)(hr:aS k X.A)(ha:PE X a ta)(hb:PE X b tb)(hK:⇑(X.K=K)):PT X (.Compare a [.Eq] [b] pos) (oX (iu (gM K) ta tb)):=C0 (qV K hr hK) ha hb (tu _)
theorem jE (K:Fg)(hr:aS k X.A)(ha:PE X a ta)(hb:PE X b tb)(hK:⇑(X.K=K)):PE X (.Compare a [.Eq] [b] pos) (iu (gM K) ta tb):=C1 (qV K hr hK) ha hb (tu _)
theorem jn (i:Nat)(rr:PA X es t)(hN:⇑(X.N[i]?=some x))(hv:autoParam (oQ X.env.scope x) zq)(hd:↥((x==("__debug__":Str))=false))(hcd:↥((x==("__classdict__":Str))=false)):
  PA X (.Name x pos::es) (eJ (ja i) t):=dU (pv i hN hv hd hcd) rr
theorem jk {n:Int}{c:Nat}(rr:PA X es t):PA X (.Constant (.int n) c pos::es) (eJ (tC (.int n)) t):=cM ah rr
theorem js {pos':Pos}(i:Nat)(hN:X.N.Nodup)(he:PE X e te)(hi:⇑(X.N[i]?=some x))(hx:autoParam (oS X.env.scope x) Fv)(hs:⇑(swapsWith e (some (.Name x pos')) pos.line X.env=So false))
  (hf:autoParam (X.fn x=true\/X.env.scope.names.lookup x=some .local) oN):PS X (.Assign [.Name x pos'] e pos) (iw te (mh i)):=Hq hN hi hx he hs hf
theorem jg (i:Nat)(hN:X.N.Nodup)(hi:⇑(X.N[i]?=some x))(hx:autoParam (oS X.env.scope x) Fv)(hf:autoParam (X.fn x=true\/X.env.scope.names.lookup x=some .local) oN):
  PG X (.Name x pos) (mh i):=C5 hN hi hx hf
theorem jf (K:Fg){f:Str}(i:Nat)(hN:⇑(X.N[i]?=some x))(hv:autoParam (oQ X.env.scope x) zq)(hd:↥((x==("__debug__":Str))=false))(hcd:↥((x==("__classdict__":Str))=false))
  (hb:⇑(attributeBase (.Name x p) f X.env (RS (.Name x p) X.env)=RS (.Name x p) X.env)) (hK:⇑(X.K=K)):PE X (.Attribute (.Name x p) f pos) (kP K (ja i) f):=lm K (pv i hN hv hd hcd) hb hK
theorem jl (G:Fn X.prog X.w X.K X.mg X.base x ps j sp)(hr:aS k X.A)(ha:PA X (e::es) t)(hg:⇑(Gl X x))(hj:↥(j<=k))(hdb:↥((x==("__debug__":Str))=false))
  (he:⇑(RE (e::es) X.env=(false,RS e X.env)::RE es X.env)) (hpl:⇑((RZ pos (RE es X.env)).any (·.1)=false)):PE X (.Call (.Name x p) (e::es) [] pos) (nH sp [] E0 t):=qH G hr hg ha hj hdb he hpl
end
variable {N:List Str}{scope:Scope}
theorem bB.f{sc0:Scope}{ps:List Str}(S:aQ N ps sc0)(N':List Str)(ms:List Bool)(kind:⇑(scope.kind=.function))(nocell: ~~~(∀ y∈scope.names,y.2≠.cell))(nm: ~~~(∀ y∈scope.names,y.2=.local->scope.names.lookup y.1=some .local))(fr: ~~~(∀ y∈scope.names,y.2=.free->sc0.names.lookup y.1=some .cell\/sc0.names.lookup y.1=some .free))(len:⇑(ms.length=N'.length))(sl: ~~~(lC N scope N' ms (N.map some)=true)):bB sc0 N scope N' ms:=bB.m kind nocell nm fr len sl
section
variable {tg iter elt:Expr}{ifs:List Expr}{N':List Str}{ms:List Bool}{wi:TI}{g:TG}{tt:TT}
theorem jC (ok:bB X.env.scope X.N scope N' ms)(hi:PI X tg iter wi)(hg:N'.Nodup->∀{cl C fp s3 H3},PG (dN X N' scope cl C fp s3 H3) tg g)(he:∀{cl C fp s3 H3},PE (dN X N' scope cl C fp s3 H3) elt te)
  (nd: ~~~(N'.Nodup)) (hc:⇑(X.calm=true)) (hs:autoParam (∀ x,foldedSetIterable iter X.env x=So x) lR):PE X (.ListComp elt [⟨tg,iter,[],0⟩] scope pos) (nB ms wi g nC te):=CJ hc ok hi (λ_ _ _ _ _=>hg nd) (λ_ _ _ _ _=>Dn) (λ_ _ _ _ _=>he) hs
theorem jS {y:Str}{py spos:Pos}(i:Nat)(hN:X.N.Nodup)(ok:bB X.env.scope X.N scope N' ms)(hi:PI X tg iter wi)(hg:N'.Nodup->∀{cl C fp s3 H3},PG (dN X N' scope cl C fp s3 H3) tg g)(he:∀{cl C fp s3 H3},PE (dN X N' scope cl C fp s3 H3) elt te)
  (nd: ~~~(N'.Nodup)) (hc:⇑(X.calm=true)) (hy:⇑(X.N[i]?=some y)) (hl:⇑(X.env.scope.names.lookup y=some .local)) (hsw:⇑(swapsWith (.ListComp elt [⟨tg,iter,[],0⟩] scope pos) (some (.Name y py)) spos.line X.env=So true))
  (hs:autoParam (∀ x,foldedSetIterable iter X.env x=So x) lR):PS X (.Assign [.Name y py] (.ListComp elt [⟨tg,iter,[],0⟩] scope pos) spos) (iw (nB ms wi g nC te) (mh i)):=KY hN hy hl hc ok hi (λ_ _ _ _ _=>hg nd) (λ_ _ _ _ _=>Dn) (λ_ _ _ _ _=>he) hsw hs
end
variable {us:List be}
theorem qT(h:us.length=0):us=[]:=Py h
theorem ji(h:us.length=n+1):∃ a r,us=a::r/\r.length=n:=by cases us with
 |nil=>cases h|cons a r=>exact⟨a,r,rfl,Nat.succ.inj h⟩
theorem qS(h:us.length=1):∃ a0,us=[a0]:=by obtain⟨a,r,rfl,k⟩:=ji h;obtain rfl:=qT k;exact⟨_,rfl⟩
theorem qR(h:us.length=2):∃ a0 a1,us=[a0,a1]:=by obtain⟨a,r,rfl,k⟩:=ji h;obtain⟨b0,rfl⟩:=qS k;exact⟨_,_,rfl⟩
theorem qP(h:us.length=3):∃ a0 a1 a2,us=[a0,a1,a2]:=by obtain⟨a,r,rfl,k⟩:=ji h;obtain⟨b0,b1,rfl⟩:=qR k;exact⟨_,_,_,rfl⟩
theorem qO(h:us.length=4):∃ a0 a1 a2 a3,us=[a0,a1,a2,a3]:=by obtain⟨a,r,rfl,k⟩:=ji h;obtain⟨b0,b1,b2,rfl⟩:=qP k;exact⟨_,_,_,_,rfl⟩
theorem zv(h:us.length=5):∃ a0 a1 a2 a3 a4,us=[a0,a1,a2,a3,a4]:=by obtain⟨a,r,rfl,k⟩:=ji h;obtain⟨b0,b1,b2,b3,rfl⟩:=qO k;exact⟨_,_,_,_,_,rfl⟩
variable {i:Str}
section
variable {P:RP}{K:Fg}{mg:Str->Option be}{base:RW}{qual:Str}{st:RM}{f:Q2}{fd:FuncData}{ps:List Str}{k:Nat}{C:Q2}
abbrev Hb (x qual:Str)(st:RM)(ps:List Str):Prop:=∀(kV doc pm:be) (an:Option Q2) (cdv ct:be) (us:List be),us.length=ps.length->bindArgs (Sr x qual (jV st) (gE st) (aI st) .none kV doc pm an cdv ct) ⟨us,[]⟩=So (ps.zip us)
abbrev Ln (sp:Sp)(ps:List Str):Prop:=∀ vs H Q E,sp vs H Q E->vs.length=ps.length
abbrev Bq (P:RP)(w:R3)(K:Fg)(mg:Str->Option be)(base:RW)(qual:Str)(st:RM)(f:Q2)(N:List Str)(k:Nat)(sp:Sp):Prop:=∀(cdv:be) (A:Sn) (outer:List Env) (s:RC) (H:Hp) (vs:Ry) (Q:VK) (E:XK),aS k (A.deeper (envOfC qual (aI st) s.heap.objs.size f cdv))->sp vs H Q E->
 ∃ t,fh (bT bH P w K mg base N qual (aI st) f cdv A outer s H E).nox (gE st) t/\t {nx:=λ_ H'=>Q .non H',rt:=Q} (start N vs) H
abbrev Bp (P:RP)(w:R3)(K:Fg)(mg:Str->Option be)(base:RW)(qual:Str)(st:RM)(f:Q2)(N:List Str)(k:Nat)(sp:Sp):Prop:=∀(cdv:be) (A:Sn) (outer:List Env) (s:RC) (H:Hp) (vs:Ry) (Q:VK) (E:XK),aS k (A.deeper (envOfC qual (aI st) s.heap.objs.size f cdv))->sp vs H Q E->
 ∃ t,fh (bT (cI P w) P w K mg base N qual (aI st) f cdv A outer s H E) (gE st) t/\t {nx:=λ_ H'=>Q .non H',rt:=Q} (start N vs) H
theorem bQ (F:aN K x x st f fd)(S:aQ N ps (aI st))(m:mg x=some (.ref f))(h:Bq P w K mg base x st f N k sp)(hb:autoParam (Hb x x st ps) oM)(ln:autoParam (Ln sp ps) oK):Fn P w K mg base x ps (k+1) sp:=Fn.of F S m hb ln h
theorem N5 (F:aN K x x st f fd)(S:aQ N ps (aI st))(m:mg x=some (.ref f))(h:Bp P w K mg base x st f N k sp)(hb:autoParam (Hb x x st ps) oM)(ln:autoParam (Ln sp ps) oK):uY P w K mg base x ps (k+1) sp:=⟨f,fd,F.okx S ln h,F.binds hb,F.kp,m⟩
theorem zM(F:aN K i qual st f fd)(M:Mk K C f)(S:aQ N ps (aI st))(m:mg x=some (.ref C))(h:Bq P w K mg base qual st f N k sp)(hb:autoParam (Hb i qual st ps) oM)(ln:autoParam (Ln sp ps) oK):kZ P w K mg base x C ps (k+1) sp:=⟨f,fd,M,F.ok S ln h,F.binds hb,m⟩
theorem N6(F:aN K i qual st f fd)(M:Mk K C f)(S:aQ N ps (aI st))(m:mg x=some (.ref C))(h:Bp P w K mg base qual st f N k sp)(hb:autoParam (Hb i qual st ps) oM)(ln:autoParam (Ln sp ps) oK):uV P w K mg base x C ps (k+1) sp:=⟨f,fd,M,F.okx S ln h,F.binds hb,m⟩
theorem d5 (F:aN K x qual st f fd)(M:bq K C x f)(S:aQ N ps (aI st))(h:Bq P w K mg base qual st f N k sp)(hb:autoParam (Hb x qual st ps) oM)(ln:autoParam (Ln sp ps) oK):bF bH P w K mg base C x ps (k+1) sp:=⟨f,fd,M,F.ok S ln h,F.binds hb⟩
theorem uK (F:aN K x qual st f fd)(M:bq K C x f)(S:aQ N ps (aI st))(h:Bp P w K mg base qual st f N k sp)(hb:autoParam (Hb x qual st ps) oM)(ln:autoParam (Ln sp ps) oK):bF (cI P w) P w K mg base C x ps (k+1) sp:=⟨f,fd,M,F.okx S ln h,F.binds hb⟩
end
theorem fe {p:Prop}(h:∀ G:Prop,(p->G)->G):p:=h p id
variable {nx ct:St->Hp->Prop}{u:TS}
theorem Gm{t:TS}{bk:St->Hp->Prop}{rt:VK}(h:∀ NX:St->Hp->Prop,Kn u ⟨nx,rt,bk,ct⟩ NX->t ⟨NX,rt,bk,ct⟩ σ H):fU t u ⟨nx,rt,bk,ct⟩ σ H:=h _ ⟨λ_ _ q=>q⟩
structure Im (a N:St->Hp->Prop):Prop where
 on:∀ σ H,a σ H->N σ H
structure Iv (a N:VK):Prop where
 on:∀ v H,a v H->N v H
theorem N8{a N:St->Hp->Prop}(k:Im a N)(h:a σ H):N σ H:=k.on _ _ h
theorem N7{a N:VK}{v:V}(k:Iv a N)(h:a v H):N v H:=k.on _ _ h
theorem Gk{t:TS}{bk:St->Hp->Prop}{rt:VK}(h:∀(N M B:St->Hp->Prop) (R:VK),Im nx N->Im nx M->Im bk B->Iv rt R->∀ NX:St->Hp->Prop,Kn u ⟨N,R,B,M⟩ NX->t ⟨NX,R,B,M⟩ σ H):fU t u ⟨nx,rt,bk,nx⟩ σ H:=h nx nx bk rt ⟨λ_ _ q=>q⟩ ⟨λ_ _ q=>q⟩ ⟨λ_ _ q=>q⟩ ⟨λ_ _ q=>q⟩ _ ⟨λ_ _ q=>q⟩
theorem Gj{bk:St->Hp->Prop}{rt:VK}(h:ct σ H):BM ⟨nx,rt,bk,ct⟩ σ H:=h
end L2
namespace My
noncomputable def aR (c k m:Int):Int:=(c%2147483647+12345)*(48271+6*k)%1000000007/7%m
noncomputable def sR (i:Int):Int:=if i=0 then 1000000000 else if i=1 then -1000000000 else if i=2 then 999999999 else -999999999
def aE (c k:Int):Int:=if aR c k 9=0 then c%2000000001 - 1000000000
 else if aR c k 9=1 then sR (aR c (k+1) 4)
 else aR c (k+2) 9 - 4
variable {c:Int}
theorem gF{k m:Int}(h:0<m):0<=aR c k m:=OU _ (by omega)
theorem gu{k m:Int}(h:0<m):aR c k m<m:=OQ _ h
theorem IY (i:Int):-1000000000<=sR i/\sR i<=1000000000:=by
 unfold sR;split
 ·omega
 ·split
  ·omega
  ·split<;>omega
theorem oC (c k:Int):-1000000000<=aE c k/\aE c k<=1000000000:=by
 unfold aE;split
 ·have h1:=OU c (show(2000000001:Int)≠0 by decide);have h2:=OQ c (show(0:Int)<2000000001 by decide);omega
 ·split
  ·exact IY _
  ·have h1:=gF (c:=c) (k:=k+2) (m:=9) (by decide);have h2:=gu (c:=c) (k:=k+2) (m:=9) (by decide);omega
def cell (ns:Rv)(k:Int):Int:=ns.getD k.toNat 0
noncomputable def bY:Rv->Rv->Int|f::fs,n::ns=>f*n+bY fs ns|_,_=>0
def aU (l ns:Rv):Int:=l.headD 0+bY l.tail ns
theorem E_:∀(fs ns:Rv) (i:Nat) (f n:Int),fs[i]?=some f->ns[i]?=some n->bY (fs.take (i+1)) (ns.take (i+1))=bY (fs.take i) (ns.take i)+f*n|[],_,i,f,n,h,_=>by simp at h|_::_,[],i,f,n,_,h=>by simp at h|a::fs,b::ns,0,f,n,h1,h2=>by simp at h1 h2;subst h1;subst h2;simp[bY]|a::fs,b::ns,i+1,f,n,h1,h2=>by have ih:=E_ fs ns i f n (by simpa using h1) (by simpa using h2);simp only[Sw,bY];rw[ih,Int.add_assoc]
def aD (i:Int):Rv:=0::(RD 8).map λ(k:Nat)=>if(0+(k:Int))=i then 1 else 0
def cW (w:Int)(t l:Rv):Rv:=List.zipWith (λs n=>s+n*w) t l
def ft (ps:List (Rv×Int))(t:Rv):Rv:=ps.foldl (λt p=>cW p.2 t p.1) t
def fD (ls:Rw)(ws:Rv):Rv:=ft (ls.zip ws) (RB 9 0)
noncomputable def tH (c:Int):Rv->Rv|[]=>[]|x::r=>(x+c)::r
def ck (line:Rv)(eight:Rw):Rv:=tH (line.headD 0) (fD eight line.tail)
variable {w:Int}{l:Rv}
theorem ut{t:Rv}(h1:t.length=9)(h2:l.length=9):(cW w t l).length=9:=by unfold cW;rw[List.length_zipWith,h1,h2];rfl
theorem yE:∀(ps:List (Rv×Int)) (t:Rv),t.length=9->(∀ p∈ps,p.1.length=9)->(ft ps t).length=9|[],t,h,_=>h|p::ps,t,h,hp=>yE ps _ (ut h (hp p Oi)) λq hq=>hp q (Oo _ hq)
variable {ws:Rv}
theorem vX{ls:Rw}(h:∀ l∈ls,l.length=9):∀ p∈ls.zip ws,p.1.length=9:=λp hp=>h p.1 (List.of_mem_zip hp).1
theorem j5{ls:Rw}(h:∀ l∈ls,l.length=9):(fD ls ws).length=9:=yE _ _ (by simp) (vX h)
theorem KR (ps:List (Rv×Int))(p:Rv×Int)(t:Rv):ft (ps++[p]) t=cW p.2 (ft ps t) p.1:=by unfold ft;rw[List.foldl_append];rfl
variable {i:Nat}
theorem Iu{ls:Rw}(h1:ls[i]?=some l)(h2:ws[i]?=some w):(ls.zip ws)[i]?.toList=[(l,w)]:=by rw[(List.getElem?_zip_eq_some (z:=(l,w))).mpr ⟨h1,h2⟩];rfl
theorem Dg (w:Int):∀(t l ns:Rv),t.length=l.length->bY (List.zipWith (λs n=>s+n*w) t l) ns=bY t ns+w*bY l ns|[],[],ns,_=>by simp[bY]|a::t,b::l,[],_=>by simp[bY]|a::t,b::l,n::ns,h=>by have ih:=Dg w t l ns (by simpa using h);simp only[List.zipWith_cons_cons,bY];rw[ih,Int.add_mul,Int.mul_add,Int.mul_comm b w,Int.mul_assoc];omega
theorem Ew(w:Int){t:Rv}(ns:Rv)(h1:t.length=9)(h2:l.length=9):aU (cW w t l) ns=aU t ns+w*aU l ns:=by cases t with
 |nil=>simp at h1|cons a t=>cases l with
  |nil=>simp at h2|cons b l=>have:=Dg w t l ns (by simp at h1 h2;omega);unfold aU cW;simp only[List.zipWith_cons_cons,List.headD_cons,List.tail_cons];rw[this,Int.mul_add,Int.mul_comm b w];omega
theorem ur (ns:Rv):∀(ls:Rw) (fs:Rv) (t:Rv),t.length=9->(∀ l∈ls,l.length=9)->aU (ft (ls.zip fs) t) ns=aU t ns+bY fs (ls.map λl=>aU l ns)|[],fs,t,h,_=>by cases fs<;>simp[ft,bY]|l::ls,[],t,h,_=>by simp[ft,bY]|l::ls,f::fs,t,h,hp=>by have h2:=hp l Oi;have ih:=ur ns ls fs (cW f t l) (ut h h2) λq hq=>hp q (Oo _ hq);show aU (ft (ls.zip fs) (cW f t l)) ns=aU t ns+(f*aU l ns+bY fs (ls.map λl=>aU l ns));rw[ih,Ew f ns h h2];omega
theorem ud:∀(k:Nat) (ns:Rv),bY (RB k 0) ns=0|0,ns=>by simp[bY]|k+1,[]=>by simp[O7,bY]|k+1,n::ns=>by simp[O7,bY,ud k ns]
theorem xS (ns:Rv):aU (RB 9 0) ns=0:=by have:=ud 8 ns;show(0:Int)+bY (RB 8 0) ns=0;rw[this];rfl
theorem ET {line:Rv}{eight:Rw}(ns:Rv)(h:∀ l∈eight,l.length=9):aU (ck line eight) ns=aU line (eight.map λl=>aU l ns):=by have h9:=j5 (ws:=line.tail) h;have hw:=ur ns eight line.tail (RB 9 0) (by simp) h;rw[xS]at hw;unfold ck;cases e:fD eight line.tail with
 |nil=>rw[e]at h9;simp at h9|cons x r=>unfold fD at e;rw[e]at hw;unfold aU at hw ⊢;simp only[tH,List.headD_cons,List.tail_cons]at hw ⊢;omega
theorem uq (h:Int)(t ns:Rv):aU (h::t) ns=h+bY t ns:=rfl
open PySem L2
def gY (c:Int)(zero:Rv)(k:Nat):Bool:=j7 (.int (0+(k:Int))) (zero.map V.int) ||decide (aR c (60+(0+(k:Int))) 3=0)
def fM (c:Int)(zero:Rv):Rv:=(RD 9).map λj=>if decide (0<j)&&gY c zero (j - 1)then 0 else aE c (5*(0+(j:Int)))
def fK (c:Int)(zero:Rv)(i:Nat):Rv:=(RD 9).map λj=>if decide (0<j)&&decide (j - 1<i)&&gY c zero (j - 1)then 0 else aE c (5*(0+(j:Int)))
variable {n:Nat}
theorem Kt{f:Nat->Int}{p:Nat}{v:Int}(hp:p<n):((RD n).map f).set p v=(RD n).map λj=>if j=p then v else f j:=by
 refine List.ext_getElem? λi=>?_;by_cases hi:i<n
 ·by_cases e:i=p
  ·subst e;rw[List.getElem?_set_self (by simpa using hi),aM,O1 hi];simp
  ·rw[List.getElem?_set_ne (R7 e),aM,aM,O1 hi];simp[e]
 ·rw[Sk (by simp;omega),Sk (by simp;omega)]
theorem um{f g:Nat->Int}(h:∀ j,j<n->f j=g j):(RD n).map f=(RD n).map g:=Sd λj hj=>h j (List.mem_range.mp hj)
theorem Ks{zero:Rv}(hi:i<8)(h:gY c zero i=true):(fK c zero i).set (i+1) 0=fK c zero (i+1):=by
 unfold fK;rw[Kt (by omega)];refine um λj hj=>?_;by_cases e:j=i+1
 ·subst e;simp[h]
 ·rw[Oh e];have:decide (j - 1<i)=decide (j - 1<i+1)\/j=0:=by
   by_cases h0:j=0
   ·exact .inr h0
   ·refine .inl (decide_eq_decide.mpr ⟨λz=>by omega,λz=>by omega⟩)
  rcases this with z|z
  ·rw[z]
  ·subst z;simp
theorem KQ{zero:Rv}(h:gY c zero i=false):fK c zero i=fK c zero (i+1):=by
 unfold fK;refine um λj hj=>?_;by_cases e:j=i+1
 ·subst e;simp[h]
 ·have:decide (j - 1<i)=decide (j - 1<i+1)\/j=0:=by
   by_cases h0:j=0
   ·exact .inr h0
   ·refine .inl (decide_eq_decide.mpr ⟨λz=>by omega,λz=>by omega⟩)
  rcases this with z|z
  ·rw[z]
  ·subst z;simp
theorem KP (c:Int)(zero:Rv):fK c zero 0=(RD 9).map λ(j:Nat)=>aE c (5*(0+(j:Int))):=by unfold fK;refine um λj hj=>?_;simp
theorem Kr (c:Int)(zero:Rv):fK c zero 8=fM c zero:=by unfold fK fM;refine um λj hj=>?_;have:decide (j - 1<8)=true:=Og (by omega);rw[this,O4]
theorem uE (c:Int)(zero:Rv):(fM c zero).length=9:=by simp[fM]
theorem MK (c:Int)(zero:Rv)(i:Nat):(fK c zero i).length=9:=by simp[fK]
theorem Kq{zero:Rv}:∀ f∈fM c zero,-1000000000<=f/\f<=1000000000:=λf h=>by
 obtain⟨k,_,rfl⟩:=bU.mp h;split
 ·omega
 ·exact oC _ _
theorem LC{zero:Rv}{k:Nat}(hk:k<8)(h:(k:Int)∈zero):(fM c zero).getD (k+1) 0=0:=by
 unfold fM;rw[OD,aM,O1 (by omega)];have:gY c zero k=true:=by unfold gY j7;rw[Bool.or_eq_true];refine .inl ?_;rw[List.any_map,List.any_eq_true];exact⟨(k:Int),h,by simp[ie]⟩
 simp[this]
def jq (c:Int):Int:=if aR c 6 4=0 then 1 else if aR c 6 4=1 then 1000 else if aR c 6 4=2 then 1+aR c 5 1000 else 2
def nq (c:Int):Int:=aE (c/13) 7
def nN (c:Int):Int:=if aE (c/17) 8>nq c then aE (c/17) 8 else nq c
def sQ (c count:Int):D:=if aR c 4 6=0 then .tup [.str "set",.int (aR c 3 4),nums (fM (c/11) [6,7])]
 else if aR c 4 6=1 then .tup [.str "part",.int (aR c 3 4),nums (fM (c/11) [6,7]),.int (jq c)]
 else if aR c 4 6=2 then .tup [.str "draw",.int (aR c 3 4),.int (nq c),.int (nN c)]
 else if aR c 4 6=3 then .tup [.str "turn",nums (fM (c/11) [6,7]),.int (aR c 9 (count+1))]
 else if aR c 4 6=4 then .tup [.str "hold",nums (fM (c/11) [6,7])]
 else .tup [.str "call",.int (aR c 12 100),.tup [.int (aR c 10 4),.int (aR c 11 4)],.tup [.int (aR c 3 4),.int ((aR c 3 4+1+aR c 13 3)%4)]]
def bo (ls:Rw):D:=.lst (ls.map nums)
noncomputable def pj:Rv:=[0,1,2,3,4,5,0,1]
def gc:Rw:=pj.map aD
def aH (P7:Rw)(P_:Rx)(place:Int):Rw:=if place=(P_.length:Int)then P7.map λl=>ck l gc else P_.getD place.toNat []
theorem Kp {i:Int}:∀ n∈aD i,n=0\/n=1:=λn h=>by
 rcases Oe.mp h with h|h
 ·exact .inl h
 ·obtain⟨k,_,rfl⟩:=bU.mp h;split
  ·exact .inr rfl
  ·exact .inl rfl
theorem KO:∀ l∈gc,l.length=9:=λl h=>by obtain⟨i,_,rfl⟩:=bU.mp h;simp[aD]
theorem KN:∀ l∈gc,∀ n∈l,n=0\/n=1:=λl h n hn=>by obtain⟨i,_,rfl⟩:=bU.mp h;exact Kp n hn
inductive Dd where|set (hand:Int) (line:Rv)|part (hand:Int) (line:Rv) (by':Int)|draw (hand low high:Int)|turn (line:Rv) (place:Int)|hold (line:Rv)|call (aE g0 g1 t0 t1:Int)
noncomputable def cT:Dd->D|.set h l=>.tup [.str "set",.int h,nums l]|.part h l b=>.tup [.str "part",.int h,nums l,.int b]|.draw h lo hi=>.tup [.str "draw",.int h,.int lo,.int hi]|.turn l p=>.tup [.str "turn",nums l,.int p]|.hold l=>.tup [.str "hold",nums l]|.call n g0 g1 t0 t1=>.tup [.str "call",.int n,.tup [.int g0,.int g1],.tup [.int t0,.int t1]]
def eU:Dd->Prop|.set _ l=>l.length=9|.part _ l _=>l.length=9|.turn l _=>l.length=9|.hold l=>l.length=9|_=>True
def cb (a b c:Int):Bool:=decide (a<=b)&&decide (b<=c)
def gb (n:Int):Bool:=cb (-1000000000) n 1000000000
noncomputable def cO (spots:List Nat) (l:Rv):Bool:=(l.map gb).all id&&(spots.map λs=>decide (l.getD s 0=0)).all id
def gy (spots:List Nat)(ls:Rw):Bool:=decide ((ls.length:Int)<=2)&&(ls.map (cO spots)).all id
def b5 (h:Int):Bool:=cb 0 h 3
noncomputable def bI (n:Int):Dd->Bool|.set h l=>b5 h&&cO [7,8] l|.part h l b=>b5 h&&(cO [7,8] l&&cb 1 b 1000)|.draw h lo hi=>b5 h&&(gb lo&&(gb hi&&decide (lo<=hi)))|.turn l p=>cO [7,8] l&&cb 0 p n|.hold l=>cO [7,8] l|.call m g0 g1 t0 t1=>([b5 g0,b5 g1].all id&&[b5 t0,b5 t1].all id)&&(cb 0 m 99&&!decide (t0=t1))
def iT (Qg P7:Rw):Bool:=gy [1,2,3,4,7,8] Qg&&gy [1,2,3,4] P7
def lH (P9:List Dd):Bool:=cb 1 (P9.length:Int) 8&&(P9.map (bI (P9.length:Int))).all id
def kD (P9:List Dd)(P_:Rx):Bool:=decide ((P_.length:Int)=(P9.length:Int))&&(P_.map (gy [7,8])).all id
def dI (Qg P7:Rw)(P9:List Dd)(P_:Rx):Bool:=iT Qg P7&&(lH P9&&kD P9 P_)
def lY (c count:Int):Dd:=if aR c 4 6=0 then .set (aR c 3 4) (fM (c/11) [6,7])
 else if aR c 4 6=1 then .part (aR c 3 4) (fM (c/11) [6,7]) (jq c)
 else if aR c 4 6=2 then .draw (aR c 3 4) (nq c) (nN c)
 else if aR c 4 6=3 then .turn (fM (c/11) [6,7]) (aR c 9 (count+1))
 else if aR c 4 6=4 then .hold (fM (c/11) [6,7])
 else .call (aR c 12 100) (aR c 10 4) (aR c 11 4) (aR c 3 4) ((aR c 3 4+1+aR c 13 3)%4)
theorem Ko (c count:Int):cT (lY c count)=sQ c count:=by
 unfold lY sQ;split
 ·rfl
 split
 ·rfl
 split
 ·rfl
 split
 ·rfl
 split<;>rfl
theorem LB (c count:Int):eU (lY c count):=by
 unfold lY;split
 ·exact uE _ _
 split
 ·exact uE _ _
 split
 ·trivial
 split
 ·exact uE _ _
 split
 ·exact uE _ _
 ·trivial
variable {α:Type}
theorem Eu{l:List α}{f:α->Bool}(h:∀ x∈l,f x=true):(l.map f).all id=true:=by rw[OT];exact OJ.mpr λx m=>h x m
variable {a b:Int}
theorem iL(h1:a<=b)(h2:b<=c):cb a b c=true:=by unfold cb;rw[Og h1,Og h2];rfl
variable {spots:List Nat}
theorem uc{zero:Rv}(h:∀ s∈spots,∃ k:Nat,s=k+1/\k<8/\(k:Int)∈zero):cO spots (fM c zero)=true:=by
 unfold cO;rw[Eu λx m=>?_,Eu λs m=>?_]
 ·rfl
 ·obtain⟨k,rfl,hk,hz⟩:=h s m;exact Og (LC hk hz)
 ·obtain⟨h1,h2⟩:=Kq x m;exact iL h1 h2
theorem sW:∀ s∈([7,8]:List Nat),∃ k:Nat,s=k+1/\k<8/\(k:Int)∈([6,7]:Rv):=λs m=>by
 rcases Oe.mp m with z|m
 ·exact⟨6,z,by decide,by decide⟩
 ·exact⟨7,bn.mp m,by decide,by decide⟩
theorem tR (c k:Int):b5 (aR c k 4)=true:=by have h1:=gF (c:=c) (k:=k) (m:=4) (by decide);have h2:=gu (c:=c) (k:=k) (m:=4) (by decide);exact iL h1 (by omega)
theorem IX{count:Int}(hc:0<=count):bI count (lY c count)=true:=by
 unfold lY;split
 ·simp only[bI];rw[tR,uc sW];rfl
 split
 ·simp only[bI];rw[tR,uc sW,OG,OG];unfold jq;have h1:=gF (c:=c) (k:=5) (m:=1000) (by decide);have h2:=gu (c:=c) (k:=5) (m:=1000) (by decide);split
  ·exact iL (by decide) (by decide)
  split
  ·exact iL (by decide) (by decide)
  split
  ·exact iL (by omega) (by omega)
  ·exact iL (by decide) (by decide)
 split
 ·simp only[bI];obtain⟨h1,h2⟩:=oC (c/13) 7;obtain⟨h3,h4⟩:=oC (c/17) 8;have e1:gb (nq c)=true:=iL h1 h2;have e2:gb (nN c)=true:=by
   unfold nN;split
   ·exact iL h3 h4
   ·exact iL h1 h2
  have e3:nq c<=nN c:=by
   unfold nN;split
   ·omega
   ·omega
  rw[tR,e1,e2,Og e3];rfl
 split
 ·simp only[bI];rw[uc sW,OG];have h1:=gF (c:=c) (k:=9) (m:=count+1) (by omega);have h2:=gu (c:=c) (k:=9) (m:=count+1) (by omega);exact iL h1 (by omega)
 split
 ·simp only[bI];exact uc sW
 ·simp only[bI];have h1:=gF (c:=c) (k:=12) (m:=100) (by decide);have h2:=gu (c:=c) (k:=12) (m:=100) (by decide);have h3:=gF (c:=c) (k:=3) (m:=4) (by decide);have h4:=gu (c:=c) (k:=3) (m:=4) (by decide);have h5:=gF (c:=c) (k:=13) (m:=3) (by decide);have h6:=gu (c:=c) (k:=13) (m:=3) (by decide);have e1:b5 ((aR c 3 4+1+aR c 13 3)%4)=true:=iL (by omega) (by omega);have e2:¬ aR c 3 4=(aR c 3 4+1+aR c 13 3)%4:=by omega
  rw[iL h1 (by omega),Oq e2];simp[tR,e1]
def cn (ws:Rv):Rv:=ws.map λw=>-w
def kr (Qw:Rv)(Qo:Rw)(Ql:Int)(ws:Rv):Rv:=fD (Qw::Qo) (Ql::cn ws)
noncomputable def vz (Qw:Rv) (Qo:Rw) (Ql:Int) (ws:Rv):Bool:=decide (-Ql<(kr Qw Qo Ql ws).headD 0)&&decide ((kr Qw Qo Ql ws).tail=RB 8 0)
def fV (Qo:Rw)(Ql:Int)(ws:Rv):Bool:=decide (1<=Ql)&&(decide (ws.length=Qo.length)&&ws.all λw=>decide (0<=w))
def lB (Qw:Rv)(Qo:Rw)(Ql:Int)(ws:Rv):Bool:=fV Qo Ql ws&&vz Qw Qo Ql ws
def jd (w:Int)(t l:Rv):Rv:=List.zipWith (λa b=>a - w*b) t l
def nk (ps:List (Rv×Int))(t:Rv):Rv:=ps.foldl (λt p=>jd p.2 t p.1) t
def mj (w:Int)(l:Rv):Rv:=l.map λx=>w*x
def oW (Qw:Rv)(Qo:Rw)(Ql:Int)(ws:Rv):Rv:=nk (Qo.zip ws) (mj Ql Qw)
theorem CQ (w:Int)(t l:Rv):jd w t l=cW (-w) t l:=by unfold jd cW;congr 1;funext a b;rw[Int.mul_neg,Int.mul_comm b w];omega
theorem xi:∀(ls:Rw) (ws:Rv) (t:Rv),nk (ls.zip ws) t=ft (ls.zip (cn ws)) t|[],ws,t=>by simp[nk,ft]|l::ls,[],t=>by simp[nk,ft,cn]|l::ls,w::ws,t=>by show nk (ls.zip ws) (jd w t l)=ft (ls.zip (cn ws)) (cW (-w) t l);rw[xi ls ws,CQ]
theorem xA:∀(n:Nat) (w:Int) (l:Rv),l.length=n->cW w (RB n 0) l=mj w l|0,w,[],_=>rfl|n+1,w,x::l,h=>by have ih:=xA n w l (by simpa using h);unfold cW mj at*;rw[O7,List.zipWith_cons_cons,ih,bX,Int.mul_comm x w,Int.zero_add]
variable {Qw:Rv}{Qo:Rw}{Ql:Int}
theorem Df(h:Qw.length=9):oW Qw Qo Ql ws=kr Qw Qo Ql ws:=by unfold oW kr fD;rw[xi];show ft (Qo.zip (cn ws)) (mj Ql Qw)=ft (Qo.zip (cn ws)) (cW Ql (RB 9 0) Qw);rw[xA 9 Ql Qw h]
theorem LA{t:Rv}(h1:t.length=9)(h2:l.length=9):(jd w t l).length=9:=by rw[CQ];exact ut h1 h2
theorem ES:∀(ps:List (Rv×Int)) (t:Rv),t.length=9->(∀ p∈ps,p.1.length=9)->(nk ps t).length=9|[],t,h,_=>h|p::ps,t,h,hp=>ES ps _ (LA h (hp p Oi)) λq hq=>hp q (Oo _ hq)
theorem E9:(mj w l).length=l.length:=by unfold mj;simp
theorem MJ(h:Qw.length=9)(h9:∀ l∈Qo,l.length=9):(oW Qw Qo Ql ws).length=9:=ES _ _ (by rw[E9];exact h) (vX h9)
theorem L8(w:Int)(ns:Rv)(h:l.length=9):aU (mj w l) ns=w*aU l ns:=by rw[<-xA 9 w l h,Ew w ns (by simp) h,xS,Int.zero_add]
theorem De:∀(ws xs:Rv),bY (cn ws) xs=- bY ws xs|[],xs=>by simp[cn,bY]|w::ws,[]=>by simp[cn,bY]|w::ws,x::xs=>by have:=De ws xs;unfold cn at*;simp only[bX,bY];rw[this,Int.neg_mul];omega
theorem KM(ns:Rv)(h:Qw.length=9)(h9:∀ l∈Qo,l.length=9):
  aU (oW Qw Qo Ql ws) ns=Ql*aU Qw ns - bY ws (Qo.map λl=>aU l ns):=by unfold oW;rw[xi,ur ns Qo (cn ws) _ (by rw[E9];exact h) h9,L8 Ql ns h,De];omega
theorem Et:∀(ws xs:Rv),(∀ w∈ws,0<=w)->(∀ x∈xs,0<=x)->0<=bY ws xs|[],xs,_,_=>by simp[bY]|w::ws,[],_,_=>by simp[bY]|w::ws,x::xs,h1,h2=>by have a:=Et ws xs (λv hv=>h1 v (Oo _ hv)) λv hv=>h2 v (Oo _ hv);have b:=Int.mul_nonneg (h1 w Oi) (h2 x Oi);simp only[bY];omega
theorem xR(ns:Rv):aU (c::RB 8 0) ns=c:=by rw[uq,ud];omega
theorem Lz(ns:Rv)(h:Qw.length=9)(h9:∀ l∈Qo,l.length=9)(s:lB Qw Qo Ql ws=true)(hh:∀ l∈Qo,0<=aU l ns):0<=aU Qw ns:=by
 unfold lB fV vz at s;simp only[Of,Oj,OJ]at s;obtain⟨⟨h1,h2,h3⟩,h4,h5⟩:=s;have hw:=KM (Ql:=Ql) (ws:=ws) ns h h9;rw[Df h]at hw;have hl:(kr Qw Qo Ql ws).length=9:=by rw[<-Df h];exact MJ h h9
 cases e:kr Qw Qo Ql ws with
 |nil=>rw[e]at hl;simp at hl|cons c fs=>
  rw[e]at hw h4 h5;simp only[List.tail_cons,List.headD_cons]at h4 h5;rw[h5,xR]at hw;have hd:=Et ws (Qo.map λl=>aU l ns) h3 (λx hx=>by obtain⟨l,hl,rfl⟩:=bU.mp hx;exact hh l hl);have hgt:-Ql<Ql*aU Qw ns:=by omega
  by_cases hn:0<=aU Qw ns
  ·exact hn
  ·exfalso;have:Ql*aU Qw ns<=Ql*(-1):=Int.mul_le_mul_of_nonneg_left (by omega) (by omega);rw[Int.mul_neg_one]at this;omega
def fJ:Nat->Rw|0=>[[]]|n+1=>(fJ n).map (λr=>r++[0])++(fJ n).map λr=>r++[1]
theorem oB:∀(n:Nat) (r:Rv),r∈fJ n->r.length=n/\∀ w∈r,w=0\/w=1
 |0,r,h=>by unfold fJ at h;rw[bn]at h;subst h;exact⟨rfl,λw hw=>by cases hw⟩|n+1,r,h=>by
  unfold fJ at h;rcases bW.mp h with h|h
  ·obtain⟨q,hq,rfl⟩:=bU.mp h;obtain⟨a,b⟩:=oB n q hq;refine⟨by simp[a],λw hw=>?_⟩;rcases bW.mp hw with hw|hw
   ·exact b w hw
   ·exact .inl (bn.mp hw)
  ·obtain⟨q,hq,rfl⟩:=bU.mp h;obtain⟨a,b⟩:=oB n q hq;refine⟨by simp[a],λw hw=>?_⟩;rcases bW.mp hw with hw|hw
   ·exact b w hw
   ·exact .inr (bn.mp hw)
theorem ER:∀ n:Nat,(fJ n).length=2 ^ n|0=>rfl|n+1=>by unfold fJ;rw[OA,aT,aT,ER n,Nat.pow_succ];omega
def nM (Qw:Rv)(Qo:Rw)(Ql:Int)(ws:Rv):Option (Int×Rv):=if lB Qw Qo Ql ws=true then some (Ql,ws)else none
def tQ (Qw:Rv)(Qo:Rw)(Ql:Int):Option (Int×Rv):=(fJ Qo.length).findSome? (nM Qw Qo Ql)
def gm (Qw:Rv)(Qo:Rw):Option (Int×Rv):=[1,2,3,4].findSome? (tQ Qw Qo)
variable {β:Type}
theorem xh:∀{l:List α}{f:α->Option β}{i:Nat}{x:α}{y:β},(l.take i).findSome? f=none->l[i]?=some x->f x=some y->l.findSome? f=some y
 |[],f,i,x,y,_,e,_=>by simp at e|a::l,f,0,x,y,_,e,h=>by simp at e;subst e;rw[Sx,h]|a::l,f,i+1,x,y,n,e,h=>by rw[Sw,Sx]at n;cases hf:f a with
  |some z=>rw[hf]at n;cases n|none=>rw[hf]at n;rw[Sx,hf];exact xh n (by simpa using e) h
theorem xm:∀{l:List α}{f:α->Option β}{i:Nat}{x:α},(l.take i).findSome? f=none->l[i]?=some x->f x=none->(l.take (i+1)).findSome? f=none
 |[],f,i,x,_,e,_=>by simp at e|a::l,f,0,x,_,e,h=>by simp at e;subst e;simp[h]|a::l,f,i+1,x,n,e,h=>by rw[Sw,Sx]at n;cases hf:f a with
  |some z=>rw[hf]at n;cases n|none=>rw[hf]at n;rw[Sw,Sx,hf];exact xm n (by simpa using e) h
theorem DN{l:List α}{f:α->Option β}(h:(l.take n).findSome? f=none)(hn:l.length<=n):l.findSome? f=none:=by rwa [Oy hn]at h
theorem KL(h:gm Qw Qo=some (w,ws)):(1<=w/\w<=4)/\ws∈fJ Qo.length/\lB Qw Qo w ws=true:=by
 unfold gm at h;obtain⟨v,hv,h⟩:=List.exists_of_findSome?_eq_some h;unfold tQ at h;obtain⟨r,hr,h⟩:=List.exists_of_findSome?_eq_some h;unfold nM at h;split at h
 ·rename_i hs;cases h;refine⟨?_,hr,hs⟩;simp at hv;rcases hv with rfl|rfl|rfl|rfl<;>omega
 ·cases h
variable {Qg P7:Rw}{P_:Rx}{P9:List Dd}
section
end
def kL (n:Int):Rv:=n::RB 8 0
def jG (line:Rv):Rv:=fD [line,kL 1] [-1,-1]
def jQ (lo:Int):Rv:=fD [aD 6,kL lo] [1,-1]
def jM (hi:Int):Rv:=fD [kL hi,aD 6] [1,-1]
def jZ (line:Rv)(b:Int):Rv:=fD [line,aD 6] [1,-b]
noncomputable def bx (line:Rv) (b:Int):Rv:=fD [aD 6,kL (b - 1),line] [b,1,-1]
theorem fF (n:Int):(kL n).length=9:=by simp[kL]
theorem bO (i:Int):(aD i).length=9:=by simp[aD]
structure fX (Qg P7:Rw)(n:Nat)(P_:Rx):Prop where
 dn:n=P_.length
 d:n<=100
 n:Qg.length<=100
 l:P7.length<=100
 n9:∀ l∈Qg,l.length=9
 l9:∀ l∈P7,l.length=9
 o:∀ ls∈P_,ls.length<=100/\∀ l∈ls,l.length=9
theorem fX.due(g:fX Qg P7 n P_)(place:Int):(aH P7 P_ place).length<=100/\∀ l∈aH P7 P_ place,l.length=9:=by
 unfold aH;split
 ·refine⟨by rw[aT];exact g.l,λl hl=>?_⟩;obtain⟨m,hm,rfl⟩:=bU.mp hl;have h9:∀ l∈gc,l.length=9:=λl hl=>by unfold gc at hl;obtain⟨i,_,rfl⟩:=bU.mp hl;exact bO i
  have hs:=j5 (ws:=m.tail) h9;unfold ck;cases e:fD gc m.tail with
  |nil=>rw[e]at hs;simp at hs|cons x r=>rw[e]at hs;simpa[tH]using hs
 ·rw[OD];cases e:P_[place.toNat]? with
  |none=>simp|some ls=>exact g.o ls (cq e)
theorem IW {i:Int}(h:0<=i):((RD 9).map λ(k:Nat)=>if decide (0+(k:Int)=i+1)=true then(1:Int)else 0)=aD i:=by
 unfold aD;rw[List.range_succ_eq_map,bX,OZ];congr 1
 ·rw[Oq (by omega)];rfl
 ·refine Sd λk _=>?_;show(if decide (0+((k+1:Nat):Int)=i+1)=true then(1:Int)else 0)=if 0+(k:Int)=i then 1 else 0;by_cases z:0+(k:Int)=i
  ·rw[Ol z,Og (by omega)];rfl
  ·rw[Oh z,Oq (by omega)];rfl
open PyProof.Rows
def kq (H:Hp):List D->Ry->Prop|[],[]=>True|d::ds,x::xs=>dB H d x/\kq H ds xs|_,_=>False
variable {H:Hp}
theorem D0:∀{ds:List D}{xs:Ry},kq H ds xs->ds.length=xs.length|[],[],_=>rfl|_::_,_::_,h=>by rw[OC,OC,D0 h.2]|[],_::_,h=>h.elim|_::_,[],h=>h.elim
theorem DM:∀{ds:List D}{xs:Ry},kq H ds xs->∀(i:Nat) dd x,ds[i]?=some dd->xs[i]?=some x->dB H dd x|[],_,_,i,_,_,e,_=>by simp at e|_::_,[],h,_,_,_,_,_=>h.elim|d::ds,x::xs,h,0,_,_,e1,e2=>by simp at e1 e2;subst e1;subst e2;exact h.1|d::ds,x::xs,h,i+1,dd,y,e1,e2=>DM h.2 i dd y (by simpa using e1) (by simpa using e2)
theorem DZ:∀{ds:List D}{xs:Ry},ds.length=xs.length->(∀(i:Nat) dd x,ds[i]?=some dd->xs[i]?=some x->dB H dd x)->kq H ds xs|[],[],_,_=>trivial|[],_::_,e,_=>by simp at e|_::_,[],e,_=>by simp at e|d::ds,x::xs,e,h=>⟨h 0 d x rfl rfl,DZ (by simpa using e) λi dd y e1 e2=>h (i+1) dd y (by simpa using e1) (by simpa using e2)⟩
variable {xs:Ry}{ds:List D}
theorem Ir{t:Q2}(h:H t=some (.tup xs))(l:ds.length<=8)(p:kq H ds xs):iI H (.tup ds) (.ref t):=⟨t,xs,ds,rfl,rfl,h,D0 p,l,DM p⟩
variable {v:V}
theorem fQ(h:iI H (.tup ds) v):∃ t xs,v=.ref t/\H t=some (.tup xs)/\kq H ds xs:=by obtain⟨t,xs,ds',e,rfl,h1,h2,_,h3⟩:=h;cases e;exact⟨t,xs,rfl,h1,DZ h2 h3⟩
theorem bR{d:D}(h:kq H (d::ds) xs):∃ x r,xs=x::r/\dB H d x/\kq H ds r:=by cases xs with
 |nil=>exact h.elim|cons x r=>exact⟨x,r,rfl,h.1,h.2⟩
theorem i7(h:kq H [] xs):xs=[]:=by cases xs with
 |nil=>rfl|cons x r=>exact h.elim
variable {x:V}
theorem gz{s:Str}(h:dB H (.str s) x):x=.str s:=by rcases h with⟨i,e,_⟩|⟨z,e,rfl⟩|⟨b,l,e,_⟩|⟨b,i,j,e,_⟩<;>cases e;rfl
variable {s:Int}
theorem eY(h:dB H (.int s) x):x=.int s:=by rcases h with⟨i,e,rfl⟩|⟨z,e,_⟩|⟨b,l,e,_⟩|⟨b,i,j,e,_⟩<;>cases e;rfl
theorem DL:∀{l m:Rv},l.map D.int=m.map D.int->l=m|[],[],_=>rfl|[],_::_,e=>by simp at e|_::_,[],e=>by simp at e|a::l,b::m,e=>by rw[bX,bX]at e;injection e with e1 e2;injection e1 with e1;rw[e1,DL e2]
theorem lP(h:dB H (nums l) x):∃ b,x=.ref b/\H b=some (.lst (l.map V.int)):=by
 rcases h with⟨i,e,_⟩|⟨z,e,_⟩|⟨b,m,e,h1,h2⟩|⟨b,i,j,e,_⟩
 ·cases e
 ·cases e
 ·injection e with e;rw[DL e];exact⟨b,h1,h2⟩
 ·cases e
variable {j:Int}
theorem ub{i:Int}(h:dB H (.tup [.int i,.int j]) x):∃ b,x=.ref b/\H b=some (.tup [.int i,.int j]):=by
 rcases h with⟨i',e,_⟩|⟨z,e,_⟩|⟨b,m,e,h1,h2⟩|⟨b,i',j',e,h1,h2⟩
 ·cases e
 ·cases e
 ·cases e
 ·cases e;exact⟨b,h1,h2⟩
def R2 {α:Type}(P:α->V->Prop)(as:List α)(xs:Ry):Prop:=as.length=xs.length/\∀(i:Nat) a x,as[i]?=some a->xs[i]?=some x->P a x
theorem R2.mono{P P':α->V->Prop}{as:List α}(h:R2 P as xs)(m:∀ a x,P a x->P' a x):R2 P' as xs:=⟨h.1,λi a x e1 e2=>m a x (h.2 i a x e1 e2)⟩
theorem R2.get{P:α->V->Prop}{as:List α}(h:R2 P as xs)(hi:i<as.length):∃ x,xs[i]?=some x/\P (as[i]) x:=by
 have hj:i<xs.length:=by rw[<-h.1];exact hi
 exact⟨xs[i],by simp,h.2 i _ _ (by simp) (by simp)⟩
def kH (H:Hp):List Dd->Ry->Prop:=R2 λd x=>iI H (cT d) x
variable {H':Hp}
theorem kH.same{ds:List Dd}(e:ae H H')(h:kH H ds xs):kH H' ds xs:=R2.mono h λ_ _ z=>z.sq e.sq
def dM:Dd->Str|.set _ _=>"set"|.part _ _ _=>"part"|.draw _ _ _=>"draw"|.turn _ _=>"turn"|.hold _=>"hold"|.call _ _ _ _ _=>"call"
variable {d:Dd}
theorem tG(h:iI H (cT d) x):∃ t xs,x=.ref t/\H t=some (.tup (.str (dM d)::xs)):=by cases d<;>(obtain⟨t,xs,rfl,h1,px⟩:=fQ h;obtain⟨x0,r,rfl,e0,px⟩:=bR px;cases gz e0;exact⟨t,r,rfl,h1⟩)
theorem tP(h:eU d):sM (cT d):=by cases d with
 |set hd l=>exact⟨_,rfl,by simp,λc hc=>by
   simp at hc;rcases hc with rfl|rfl|rfl
   ·exact .inr (.inl ⟨_,rfl⟩)
   ·exact .inl ⟨_,rfl⟩
   ·exact .inr (.inr (.inl ⟨l,h,rfl⟩))⟩|part hd l b=>exact⟨_,rfl,by simp,λc hc=>by
   simp at hc;rcases hc with rfl|rfl|rfl|rfl
   ·exact .inr (.inl ⟨_,rfl⟩)
   ·exact .inl ⟨_,rfl⟩
   ·exact .inr (.inr (.inl ⟨l,h,rfl⟩))
   ·exact .inl ⟨_,rfl⟩⟩|draw hd lo hi=>exact⟨_,rfl,by simp,λc hc=>by
   simp at hc;rcases hc with rfl|rfl|rfl|rfl
   ·exact .inr (.inl ⟨_,rfl⟩)
   ·exact .inl ⟨_,rfl⟩
   ·exact .inl ⟨_,rfl⟩
   ·exact .inl ⟨_,rfl⟩⟩|turn l p=>exact⟨_,rfl,by simp,λc hc=>by
   simp at hc;rcases hc with rfl|rfl|rfl
   ·exact .inr (.inl ⟨_,rfl⟩)
   ·exact .inr (.inr (.inl ⟨l,h,rfl⟩))
   ·exact .inl ⟨_,rfl⟩⟩|hold l=>exact⟨_,rfl,by simp,λc hc=>by
   simp at hc;rcases hc with rfl|rfl
   ·exact .inr (.inl ⟨_,rfl⟩)
   ·exact .inr (.inr (.inl ⟨l,h,rfl⟩))⟩|call m g0 g1 t0 t1=>exact⟨_,rfl,by simp,λc hc=>by
   simp at hc;rcases hc with rfl|rfl|rfl|rfl
   ·exact .inr (.inl ⟨_,rfl⟩)
   ·exact .inl ⟨_,rfl⟩
   ·exact .inr (.inr (.inr ⟨_,_,rfl⟩))
   ·exact .inr (.inr (.inr ⟨_,_,rfl⟩))⟩
theorem kW{l:List α}(h:l.length=n+1):∃ a t,l=a::t/\t.length=n:=by cases l with
 |nil=>cases h|cons a t=>exact⟨a,t,rfl,Nat.succ.inj h⟩
theorem eB{l:List α}(h:l.length=4):∃ a b c d,l=[a,b,c,d]:=by obtain⟨a,l,rfl,h1⟩:=kW h;obtain⟨b,l,rfl,h2⟩:=kW h1;obtain⟨c,l,rfl,h3⟩:=kW h2;obtain⟨d,l,rfl,h4⟩:=kW h3;exact⟨a,b,c,d,by rw[Py h4]⟩
theorem zw{l:List α}(h:l.length=8):∃ a b c d e f g i,l=[a,b,c,d,e,f,g,i]:=by obtain⟨a,l,rfl,h1⟩:=kW h;obtain⟨b,l,rfl,h2⟩:=kW h1;obtain⟨c,l,rfl,h3⟩:=kW h2;obtain⟨d,l,rfl,h4⟩:=kW h3;obtain⟨e,f,g,i,rfl⟩:=eB h4;exact⟨a,b,c,d,e,f,g,i,rfl⟩
theorem nine{l:List α}(h:l.length=9):∃ a b c d e f g i j,l=[a,b,c,d,e,f,g,i,j]:=by obtain⟨a,l,rfl,h1⟩:=kW h;obtain⟨b,c,d,e,f,g,i,j,rfl⟩:=zw h1;exact⟨a,b,c,d,e,f,g,i,j,rfl⟩
theorem uv:RB 9 (0:Int)=[0,0,0,0,0,0,0,0,0]:=rfl
theorem Oc (n:Int):kL n=[n,0,0,0,0,0,0,0,0]:=rfl
abbrev Du:=Rv×Rw
def kc (g:Du):D:=.tup [nums g.1,bo g.2]
def pb (H:Hp)(g:Du)(v:V):Prop:=∃ T ga na,v=.ref T/\H T=some (.tup [.ref ga,.ref na])/\H ga=some (.lst (g.1.map V.int))/\Ls H na g.2
variable {g:Du}
theorem pb.same(e:ae H H')(h:pb H g v):pb H' g v:=by obtain⟨T,ga,na,rfl,h1,h2,h3⟩:=h;exact⟨T,ga,na,rfl,e _ _ h1,e _ _ h2,h3.same e⟩
def sy (H:Hp)(ls:Rw)(x:V):Prop:=∃ b,x=.ref b/\Ls H b ls
def o_ (H:Hp)(v:V)(Qg P7:Rw)(P9:List Dd)(P_:Rx):Prop:=∃(pa y1 y2 a3 a4:Q2) (Qy QI:Ry),v=.ref pa/\H pa=some (.lst [.ref y1,.ref y2,.ref a3,.ref a4])/\Ls H y1 Qg/\Ls H y2 P7/\H a3=some (.lst Qy)/\H a4=some (.lst QI)/\kH H P9 Qy/\R2 (sy H) P_ QI
variable {fp:Rz}
theorem ai.ls{ls:Rw}(h:ai H (.lst (ls.map nums)) v fp):∃ ka,v=.ref ka/\Ls H ka ls:=by unfold ai at h;obtain⟨a,xs,r,rfl,rfl,h1,h2⟩:=h;obtain⟨rfl,e2,e3⟩:=aj.lines h2;refine⟨a,rfl,r,h1,e2,λi b l q1 q2=>?_⟩;obtain⟨l',z1,z2⟩:=e3 i b q1;rw[q2]at z1;cases z1;exact z2
theorem ai.duty{f:Rz}(h:ai H (kc g) v f):∃(T ga na:Q2) (as:Rz),v=.ref T/\H T=some (.tup [.ref ga,.ref na])/\H ga=some (.lst (g.1.map V.int))/\H na=some (.lst (as.map V.ref))/\as.length=g.2.length/\(∀(i:Nat) a l,as[i]?=some a->g.2[i]?=some l->H a=some (.lst (l.map V.int)))/\ga∈f/\na∈f/\∀ b∈as,b∈f:=by unfold kc ai at h;obtain⟨T,xs,rfl,hT,hx⟩:=h;unfold aj at hx;obtain⟨x1,r1,f1,g1,rfl,rfl,h1,hx⟩:=hx;unfold aj at hx;obtain⟨x2,r2,f2,g2,rfl,rfl,h2,hx⟩:=hx;unfold aj at hx;obtain⟨rfl,rfl⟩:=hx;unfold ai at h1;obtain⟨ga,ys,r3,rfl,rfl,hga,hy⟩:=h1;obtain⟨rfl,rfl⟩:=aj.ints_eq hy;unfold bo ai at h2;obtain⟨na,zs,as,rfl,rfl,hna,hz⟩:=h2;obtain⟨rfl,e2,e3⟩:=aj.lines hz;refine⟨T,ga,na,as,rfl,hT,hga,hna,e2,λi a l q1 q2=>?_,by simp,by simp,λb hb=>by simp[hb]⟩;obtain⟨l',z1,z2⟩:=e3 i a q1;rw[q2]at z1;cases z1;exact z2
theorem ai.dutyAt{f:Rz}(h:ai H (kc g) v f):pb H g v:=by obtain⟨T,ga,na,as,rfl,h1,h2,h3,h4,h5,_⟩:=ai.duty h;exact⟨T,ga,na,rfl,h1,h2,as,h3,h4,h5⟩
theorem aj.duties{gs:List Du}(h:aj H (gs.map kc) xs fp):R2 (pb H) gs xs:=⟨by have:=h.length;simpa using this,λi g x e1 e2=>by obtain⟨f,hf⟩:=aj.item h i (kc g) x (by rw[aM,e1];rfl) e2;exact ai.dutyAt hf⟩
theorem Km{k:Int}(h0:0<=k):bM xs (some k) none=xs.drop k.toNat:=by
 have e:k=(k.toNat:Int):=by omega
 rw[e];unfold bM;rw[HT.sIx_none,HT.sIx_nat,Pw];by_cases z:k.toNat<=xs.length
 ·rw[Nat.min_eq_left z,Oy (by rw[Pr];exact On _)]
 ·rw[Nat.min_eq_right (by omega),Nat.sub_self,List.take_zero,List.drop_eq_nil_of_le (by omega)]
theorem Kl{k:Int}(h0:0<=k):bM xs none (some k)=xs.take k.toNat:=by
 have e:k=(k.toNat:Int):=by omega
 rw[e];unfold bM;rw[HT.sIx_none,HT.sIx_nat,List.drop_zero,Nat.sub_zero,Pw];by_cases z:k.toNat<=xs.length
 ·rw[Nat.min_eq_left z]
 ·rw[Nat.min_eq_right (by omega),Oy (On _),Oy (by omega)]
def fG (H H':Hp):Prop:=∀ b o,H b=some o->(∀ kvs,o≠HO.dK kvs)->H' b=some o
theorem _root_.L2.ae.nod(e:ae H H'):fG H H':=λb o h _=>e b o h
variable {H1 H2:Hp}
theorem fG.trans(a:fG H H1)(b:fG H1 H2):fG H H2:=λc o h n=>b c o (a c o h n) n
variable {p:Q2}{o:HO}{kvs:List (bj×V)}
theorem og(h:H p=some (.dK kvs)):fG H (upd H p o):=λb u e n=>by rw[aC (λz=>by rw[z,h]at e;exact n kvs (OL e).symm)];exact e
theorem fG.sq(e:fG H H'):Sq H H':=λb o h q=>e b o h λkvs z=>by rw[z]at q;cases q
variable {ka:Q2}
theorem _root_.L2.Ls.nod{ls:Rw}(e:fG H H')(h:Ls H ka ls):Ls H' ka ls:=by obtain⟨as,h1,h2,h3⟩:=h;exact⟨as,e _ _ h1 (λ_ z=>by cases z),h2,λi a l e1 e2=>e _ _ (h3 i a l e1 e2) (λ_ z=>by cases z)⟩
theorem Kk {κ:Type}[DecidableEq κ](kvs:List (κ×V))(k:κ)(v:V):(aZ kvs k v).map (·.1)=if k∈kvs.map (·.1)then kvs.map (·.1)else kvs.map (·.1)++[k]:=by cases h:aG kvs k with
 |some y=>rw[Ol (CL h)];unfold aZ;rw[lN,h];rw[Ol (show(some y).isSome=true from rfl),OZ];refine Sd λp _=>?_;show(if p.1=k then(p.1,v)else p).1=p.1;split<;>rfl|none=>rw[Oh (JB h),JF v h,OF];rfl
variable {ks:Rv}
theorem vW{m:Int}:(Sum.inl m:bj)∈ks.map (Sum.inl:Int->bj)↔m∈ks:=by
 constructor
 ·intro h;obtain⟨x,hx,e⟩:=bU.mp h;injection e with e;rw[<-e];exact hx
 ·intro h;exact List.mem_map_of_mem h
theorem KJ{m:Int}:(ks.map (Sum.inl:Int->bj)).filter (λk=>decide (k≠Sum.inl m))=(ks.filter λk=>decide (k≠m)).map Sum.inl:=by rw[List.filter_map];congr 1;refine List.filter_congr λx _=>?_;show decide ((Sum.inl x:bj)≠Sum.inl m)=decide (x≠m);refine decide_eq_decide.mpr ⟨λh z=>h (by rw[z]),λh z=>h (by injection z)⟩
theorem KH{k:bj}:(fw kvs k).map (·.1)=(kvs.map (·.1)).filter (λj=>decide (j≠k)):=by unfold fw;rw[List.filter_map];rfl
def cD (P:Int->V->Prop)(kvs:List (bj×V))(ks:Rv):Prop:=kvs.map (·.1)=ks.map Sum.inl/\ks.Nodup/\∀ m∈ks,∃ v,aG kvs (.inl m)=some v/\P m v
variable {P:Int->V->Prop}
theorem cD.nil:cD P [] []:=⟨rfl,OX,λm hm=>by simp at hm⟩
variable {P':Int->V->Prop}
theorem cD.mono(h:cD P kvs ks)(m:∀ k v,P k v->P' k v):cD P' kvs ks:=⟨h.1,h.2.1,λk hk=>by obtain⟨v,h1,h2⟩:=h.2.2 k hk;exact⟨v,h1,m k v h2⟩⟩
theorem cD.len(h:cD P kvs ks):kvs.length=ks.length:=by have:=congrArg List.length h.1;simpa using this
theorem cD.no{m:Int}(h:cD P kvs ks)(n:m∉ks):aG kvs (.inl m)=none:=by cases e:aG kvs (.inl m)with
 |none=>rfl|some v=>have:=CL e;rw[h.1]at this;exact OE (vW.mp this) n
theorem cD.put{m:Int}(h:cD P kvs ks)(hv:P m v):cD P (aZ kvs (.inl m) v) (if m∈ks then ks else ks++[m]):=by
 refine⟨?_,?_,λk hk=>?_⟩
 ·rw[Kk,h.1];by_cases z:m∈ks
  ·rw[Ol (vW.mpr z),Ol z]
  ·rw[Oh (λw=>z (vW.mp w)),Oh z,OF];rfl
 ·by_cases z:m∈ks
  ·rw[Ol z];exact h.2.1
  ·rw[Oh z];exact v9 h.2.1 z
 ·rw[ox];by_cases e:k=m
  ·subst e;exact⟨v,by rw[Ol rfl],hv⟩
  ·rw[Oh (λw=>e (by injection w))];refine h.2.2 k ?_;by_cases z:m∈ks
   ·rw[Ol z]at hk;exact hk
   ·rw[Oh z]at hk;rcases bW.mp hk with w|w
    ·exact w
    ·exact OE (bn.mp w) e
theorem cD.put'{m:Int}(h:cD P kvs ks)(hv:P' m v)(hP:∀ k v,k≠m->P k v->P' k v):cD P' (aZ kvs (.inl m) v) (if m∈ks then ks else ks++[m]):=by
 have h0:cD (λk w=>k=m/\w=v\/P k w) (aZ kvs (.inl m) v) (if m∈ks then ks else ks++[m]):=(h.mono λk w z=>.inr z).put (.inl ⟨rfl,rfl⟩);refine⟨h0.1,h0.2.1,λk hk=>?_⟩;by_cases e:k=m
 ·subst e;exact⟨v,by rw[ox,Ol rfl],hv⟩
 ·obtain⟨w,e1,e2⟩:=h0.2.2 k hk;rcases e2 with⟨e2,_⟩|e2
  ·exact OE e2 e
  ·exact⟨w,e1,hP k w e e2⟩
theorem cD.drop{m:Int}(h:cD P kvs ks):cD P (fw kvs (.inl m)) (ks.filter λk=>decide (k≠m)):=by refine⟨by rw[KH,h.1];exact KJ,h.2.1.filter _,λk hk=>?_⟩;obtain⟨h1,h2⟩:=Pn.mp hk;have h2:k≠m:=Ot h2;rw[Em,Oh (λw=>h2 (by injection w))];exact h.2.2 k h1
theorem G_(h1:P7.length<=2)(h2:∀ ls∈P_,ls.length<=2)(place:Int):(aH P7 P_ place).length<=2:=by
 unfold aH;split
 ·rw[aT];exact h1
 ·rw[OD];cases e:P_[place.toNat]? with
  |none=>simp|some ls=>exact h2 ls (cq e)
def bN (ch:Nat->Option Rv):Rw:=(RD 8).map λ(i:Nat)=>(ch i).getD (aD (0+(i:Int)))
def cV (k:Int)(l:Rv)(i:Nat):Option Rv:=if k=0+(i:Int)then some l else none
def cz (k0:Int)(l0:Rv)(k1:Int)(l1:Rv)(i:Nat):Option Rv:=if k1=0+(i:Int)then some l1 else if k0=0+(i:Int)then some l0 else none
noncomputable def fW (i:Nat):Option Rv:=if i=0 then some (aD 4)else if i=1 then some (aD 5)else if i=2 then some (kL 0)else if i=3 then some (kL 0)else none
def fm (Qw:Rv)(Qo:Rw):D:=.tup [nums Qw,bo Qo]
def o7 (Qg P7:Rw)(P_:Rx):List D:=((aH P7 P_ 0).map λl=>ck l (bN fW)).map λg=>fm g Qg
abbrev cB:=Int->Rw×Rw
noncomputable def kB (N A:Rw) (T:Int->Rw) (oath:cB):Dd->List D|.set h l=>(A.map λx=>ck x (bN (cV h l))).map λg=>fm g N|.part h l b=>(A.map λx=>ck x (bN (cV h (aD 6)))).map λg=>fm g (N++[jZ l b,bx l b])|.draw h lo hi=>(A.map λx=>ck x (bN (cV h (aD 6)))).map λg=>fm g (N++[jQ lo,jM hi])|.turn l p=>((T p).map λg=>fm g (N++[l]))++A.map λg=>fm g (N++[jG l])|.hold l=>[fm l N]++A.map λg=>fm g (N++[l])|.call m g0 g1 t0 t1=>(((oath m).1.map λx=>ck x (bN (cz 4 (aD g0) 5 (aD g1)))).map λg=>fm g N)++(A.map λx=>ck x (bN (cz t0 (aD 6) t1 (aD 7)))).map λg=>fm g (N++(oath m).2.map λx=>ck x (bN (cz 4 (aD g0) 5 (aD g1))))
def ip (P7:Rw)(P_:Rx)(oath:cB):List Dd->Nat->List D|[],_=>[]|d::ds,p=>kB (aH P7 P_ p) (aH P7 P_ (p+1)) (aH P7 P_) oath d++ip P7 P_ oath ds (p+1)
theorem xQ (P7:Rw)(P_:Rx)(oath:cB):∀(xs ys:List Dd) (p:Nat),ip P7 P_ oath (xs++ys) p=ip P7 P_ oath xs p++ip P7 P_ oath ys (p+xs.length)|[],ys,p=>rfl|x::xs,ys,p=>by show kB _ _ _ _ x++ip P7 P_ oath (xs++ys) (p+1)=(kB _ _ _ _ x++ip P7 P_ oath xs (p+1))++_;rw[xQ P7 P_ oath xs ys (p+1),OW,OC,show p+1+xs.length=p+(xs.length+1)by omega]
def pD (Qg P7:Rw)(P9:List Dd)(P_:Rx)(oath:cB):List D:=o7 Qg P7 P_++ip P7 P_ oath P9 0
def dX (N A:Rw)(T:Int->Rw)(oath:cB):Dd->List Du|.set h l=>A.map λx=>(ck x (bN (cV h l)),N)|.part h l b=>A.map λx=>(ck x (bN (cV h (aD 6))),N++[jZ l b,bx l b])|.draw h lo hi=>A.map λx=>(ck x (bN (cV h (aD 6))),N++[jQ lo,jM hi])|.turn l p=>((T p).map λg=>(g,N++[l]))++A.map λg=>(g,N++[jG l])|.hold l=>[(l,N)]++A.map λg=>(g,N++[l])|.call m g0 g1 t0 t1=>((oath m).1.map λx=>(ck x (bN (cz 4 (aD g0) 5 (aD g1))),N))++A.map λx=>(ck x (bN (cz t0 (aD 6) t1 (aD 7))),N++(oath m).2.map λx=>ck x (bN (cz 4 (aD g0) 5 (aD g1))))
theorem Kj (N A:Rw)(T:Int->Rw)(oath:cB)(d:Dd):(dX N A T oath d).map kc=kB N A T oath d:=by cases d<;>simp only[dX,kB,OF,OZ,bX,O6]<;>rfl
def tq (Qg P7:Rw)(P_:Rx):List Du:=(aH P7 P_ 0).map λl=>(ck l (bN fW),Qg)
def iS (P7:Rw)(P_:Rx)(oath:cB):List Dd->Nat->List Du|[],_=>[]|d::ds,p=>dX (aH P7 P_ p) (aH P7 P_ (p+1)) (aH P7 P_) oath d++iS P7 P_ oath ds (p+1)
theorem DY (P7:Rw)(P_:Rx)(oath:cB):∀(ds:List Dd) (p:Nat),(iS P7 P_ oath ds p).map kc=ip P7 P_ oath ds p|[],p=>rfl|d::ds,p=>by show(dX _ _ _ _ d++iS P7 P_ oath ds (p+1)).map kc=kB _ _ _ _ d++ip P7 P_ oath ds (p+1);rw[OF,Kj,DY P7 P_ oath ds (p+1)]
def oa (Qg P7:Rw)(P9:List Dd)(P_:Rx)(oath:cB):List Du:=tq Qg P7 P_++iS P7 P_ oath P9 0
theorem Es (Qg P7:Rw)(P9:List Dd)(P_:Rx)(oath:cB):(oa Qg P7 P9 P_ oath).map kc=pD Qg P7 P9 P_ oath:=by unfold oa pD;rw[OF,DY];congr 1;unfold tq o7;rw[OZ,OZ];rfl
def Sm (l:Rv):Prop:=∀ n∈l,-(2 ^ 64)<n/\n<2 ^ 64
def fR:Dd->Option Int|.call m _ _ _ _=>some m|_=>none
def cK (P9:List Dd):Rv:=P9.filterMap fR
def oP (n:Nat):Dd->Prop|.set _ l=>l.length=9/\Sm l|.part _ l b=>l.length=9/\(-1000000<b/\b<1000000)|.turn l p=>l.length=9/\0<=p/\p<=(n:Int)|.hold l=>l.length=9|_=>True
theorem Er{m:Int}(h:m∈cK P9):∃ d∈P9,fR d=some m:=by unfold cK at h;exact OY.mp h
variable {g0 g1 t0 t1:Int}
theorem IV{m:Int}(h:Dd.call m g0 g1 t0 t1∈P9):m∈cK P9:=by unfold cK;exact OY.mpr ⟨_,h,rfl⟩
def aX (S:Rz)(H H':Hp):Prop:=∀ b o,b∉S->H b=some o->H' b=some o
variable {S:Rz}
theorem _root_.L2.ae.offA(e:ae H H'):aX S H H':=λb o _ h=>e b o h
theorem aX.trans(a:aX S H H1)(b:aX S H1 H2):aX S H H2:=λc o n h=>b c o n (a c o n h)
theorem hX(h:p∈S):aX S H (upd H p o):=λb u n e=>by rw[aC (λz=>n (by rw[z];exact h))];exact e
theorem aX.nod(e:aX S H H')(h:∀ a∈S,∃ kvs,H a=some (.dK kvs)):fG H H':=λb o hb n=>e b o (λz=>by obtain⟨kvs,hk⟩:=h b z;rw[hk]at hb;exact n kvs (OL hb).symm) hb
structure Cr where
 Qg:Rw
 P7:Rw
 P9:List Dd
 P_:Rx
def j8 (la va:Q2):List (Str×V):=ar "vouched" (.ref va) (ar "laid" (.ref la) [])
theorem jP (la va:Q2):(j8 la va).lookup ("laid":Str)=some (.ref la):=by unfold j8;rw[fS,Oh (by decide+kernel),fS,Ol rfl]
theorem ug (la va:Q2):(j8 la va).lookup ("vouched":Str)=some (.ref va):=by unfold j8;rw[fS,Ol rfl]
variable {la va:Q2}
theorem gX{m:Str}(h1: ~~~(¬ m ="vouched"))(h2: ~~~(¬ m ="laid")):(j8 la va).lookup m=none:=by unfold j8;rw[fS,Oh h1,fS,Oh h2];rfl
theorem DK {n:Int}:∀{l:Rv},j7 (.int n) (l.map V.int)=decide (n∈l)
 |[]=>by simp[j7]|a::l=>by
  have ih:=DK (n:=n) (l:=l);unfold j7 at ih ⊢;rw[bX,Ph,ih];by_cases z:n=a
  ·subst z;simp[ie]
  ·have:ie (.int a) (.int n)=false:=by simp[ie];intro w;exact z w.symm
   rw[this];simp[z]
theorem KG (zs:Rv):(zs.map V.int).all fL=true:=by rw[OT,OJ];intro x _;rfl
theorem uw:RB 8 (0:Int)=[0,0,0,0,0,0,0,0]:=rfl
def ic (g:Du):Prop:=(gm g.1 g.2).isSome=true
def e1:Rv:=[0,1,0,0,0,-1,0,0,0]
theorem e9 {ch:Nat->Option Rv}(h:∀ i l,ch i=some l->l.length=9):∀ l∈bN ch,l.length=9:=λl hl=>by obtain⟨i,_,rfl⟩:=bU.mp hl;cases e:ch i with
 |none=>exact bO _|some l=>exact h i l e
theorem mW{k:Int}(h:l.length=9):∀ x∈bN (cV k l),x.length=9:=e9 λi m e=>by
 unfold cV at e;split at e
 ·cases e;exact h
 ·cases e
theorem mV {k0 k1:Int}{l0 l1:Rv}(h0:l0.length=9)(h1:l1.length=9):∀ x∈bN (cz k0 l0 k1 l1),x.length=9:=e9 λi m e=>by
 unfold cz at e;split at e
 ·cases e;exact h1
 split at e
 ·cases e;exact h0
 ·cases e
theorem zO:∀ x∈bN fW,x.length=9:=e9 λi m e=>by
 unfold fW at e;split at e
 ·cases e;exact bO _
 split at e
 ·cases e;exact bO _
 split at e
 ·cases e;exact fF _
 split at e
 ·cases e;exact fF _
 ·cases e
noncomputable def eI (k:Int):Rw×Rw:=if k=0 then([aD 4,aD 5],[aD 6,aD 7])else([aD 4],[[0,0,0,0,0,-1,0,1,0],aD 6])
theorem wx(h:l.length=9):(jZ l b).length=9/\(bx l b).length=9/\(jG l).length=9:=by
 nomatch ?_,?_
 ·unfold jZ;exact j5 λz hz=>by
   simp at hz;rcases hz with rfl|rfl
   ·exact h
   ·exact bO 6
 ·unfold bx;exact j5 λz hz=>by
   simp at hz;rcases hz with rfl|rfl|rfl
   ·exact bO 6
   ·exact fF _
   ·exact h
 ·unfold jG;exact j5 λz hz=>by
   simp at hz;rcases hz with rfl|rfl
   ·exact h
   ·exact fF _
variable {lo hi:Int}
theorem CP:(jQ lo).length=9/\(jM hi).length=9:=by
 nomatch ?_
 ·unfold jQ;exact j5 λz hz=>by
   simp at hz;rcases hz with rfl|rfl
   ·exact bO 6
   ·exact fF _
 ·unfold jM;exact j5 λz hz=>by
   simp at hz;rcases hz with rfl|rfl
   ·exact fF _
   ·exact bO 6
def cP (c:Int):Int:=if c/8%3=0 then 0 else if c/8%3=1 then 1 else c/48%1000000001
def ki (c:Int):Rv:=((RD 7).map λ(k:Nat)=>aE c (5*(0+(k:Int))))++[0,0]
def kA (c count:Int):Dd:=if c%3=0 then .turn (ki (c/7)) (aR c 30 (count+1))
 else if c%3=1 then .set (2+c/3%2) (ki (c/7))
 else .draw (2+c/3%2) (aE (c/5) 31) (if aE (c/7) 32>aE (c/5) 31 then aE (c/7) 32 else aE (c/5) 31)
def iO (c:Int)(P8:Rv):Nat:=(c/48%(P8.length:Int)).toNat
def jL (c count:Int)(P8 Qh:Rv):Dd:=if c%8=0 then .set (c/24%2) [cP c,1,1,0,0,0,0,0,0]
 else if c%8=1 then .set (c/24%2) [cP c,c/24%2,1 - c/24%2,0,0,0,0,0,0]
 else if c%8=2 then .part (c/24%2) [cP c,1,c/48%2,0,0,0,0,0,0] (1+c/96%4)
 else if c%8=3 then .draw (c/24%2) (c/48%3) (if cP c>2 then cP c else 2)
 else if c%8=4 then .hold [cP c,1,c/24%2,0,0,0,0,0,0]
 else if c%8=5 then(if Qh.getD (iO c P8) 0=0 then .call (P8.getD (iO c P8) 0) (c/24%2) (c/96%2) (c/192%4) ((c/192%4+1+c/768%3)%4)else .call (P8.getD (iO c P8) 0) (c/24%2) (c/96%4) (c/384%2) (2+c/768%2))
 else kA (c/8) count
def jO (c count:Int)(P8 Qh:Rv):Dd:=if c%8=0\/c%8=1 then .set 0 [cP c,1,0,0,0,0,0,0,0]
 else if c%8=2 then .part 0 [cP c,1,0,0,0,0,0,0,0] 1
 else if c%8=3 then .hold [cP c,1,0,0,0,-(c/24%2),0,0,0]
 else if c%8=4 then .set 1 (ki (c/24))
 else if c%8=5 then(if Qh.getD (iO c P8) 0=0 then .call (P8.getD (iO c P8) 0) 0 0 (2+c/96%2) 1 else .call (P8.getD (iO c P8) 0) 0 (c/96%4) (c/384%2) (2+c/768%2))
 else kA (c/8) count
theorem EK (c:Int):0<=cP c/\cP c<=1000000000:=by
 unfold cP;split
 ·omega
 split<;>omega
theorem wO (c:Int):(ki c).length=9:=by simp[ki]
variable {h:Int}
section
variable {t g u:Q2}
theorem pC(l0:H la=none)(l1:H1 la=some (.lst (l.map V.int)))(ht:H1 t=none):ak H (upd H1 t (.tup [.str "set",.int h,.ref la])) (cT (.set h l)) (.ref t):=ak.tup (fp:=[la]) (aj.cstr (aj.cint (aj.cany (f:=[la]) (ai.line (ax ht _ _ _ l1)) aj.nil))) (by simp) (λb m=>by rw[bn.mp m];exact l0) aq
theorem DJ(l0:H la=none)(l1:H1 la=some (.lst (l.map V.int)))(ht:H1 t=none):ak H (upd H1 t (.tup [.str "part",.int h,.ref la,.int b])) (cT (.part h l b)) (.ref t):=ak.tup (fp:=[la]) (aj.cstr (aj.cint (aj.cany (f:=[la]) (ai.line (ax ht _ _ _ l1)) (aj.cint aj.nil)))) (by simp) (λb m=>by rw[bn.mp m];exact l0) aq
theorem DI(ht:H1 t=none):ak H (upd H1 t (.tup [.str "draw",.int h,.int lo,.int hi])) (cT (.draw h lo hi)) (.ref t):=ak.tup (fp:=[]) (aj.cstr (aj.cint (aj.cint (aj.cint aj.nil)))) (by simp) (λb m=>by cases m) aq
theorem IU {p:Int}(l0:H la=none)(l1:H1 la=some (.lst (l.map V.int)))(ht:H1 t=none):ak H (upd H1 t (.tup [.str "turn",.ref la,.int p])) (cT (.turn l p)) (.ref t):=ak.tup (fp:=[la]) (aj.cstr (aj.cany (f:=[la]) (ai.line (ax ht _ _ _ l1)) (aj.cint aj.nil))) (by simp) (λb m=>by rw[bn.mp m];exact l0) aq
theorem DH (l0:H la=none)(l1:H1 la=some (.lst (l.map V.int)))(ht:H1 t=none):ak H (upd H1 t (.tup [.str "hold",.ref la])) (cT (.hold l)) (.ref t):=ak.tup (fp:=[la]) (aj.cstr (aj.cany (f:=[la]) (ai.line (ax ht _ _ _ l1)) aj.nil)) (by simp) (λb m=>by rw[bn.mp m];exact l0) aq
theorem tO{m:Int}(hg:H1 g=some (.tup [.int g0,.int g1]))(hu:H1 u=some (.tup [.int t0,.int t1]))(ht:H1 t=none):ak H (upd H1 t (.tup [.str "call",.int m,.ref g,.ref u])) (cT (.call m g0 g1 t0 t1)) (.ref t):=ak.tup (fp:=[]) (aj.cstr (aj.cint (aj.cany (f:=[]) (ai.pair (ax ht _ _ _ hg)) (aj.cany (f:=[]) (ai.pair (ax ht _ _ _ hu)) aj.nil)))) (by simp) (λb m=>by cases m) aq
end
theorem pB{va vb:V}{la lb:Rv}(s1:ae H H1)(n1:ak H H1 (nums la) va)(s2:ae H1 H2)(n2:ak H1 H2 (nums lb) vb)(hp:H2 p=none):ak H (upd H2 p (.lst [va,vb])) (bo [la,lb]) (.ref p):=((bD.nil.snoc (H1:=H) (ae.refl H) s1 n1).snoc s1 s2 n2).lst (s1.trans s2) hp
theorem G0{va:V}{la:Rv}(s1:ae H H1)(n1:ak H H1 (nums la) va)(hp:H1 p=none):ak H (upd H1 p (.lst [va])) (bo [la]) (.ref p):=(bD.nil.snoc (H1:=H) (ae.refl H) s1 n1).lst s1 hp
variable {d1 d2 d3 d4:D}{v1 v2 v3 v4:V}
theorem aj.out4(h:aj H [d1,d2,d3,d4] [v1,v2,v3,v4] fp):∃ f1 f2 f3 f4,fp=f1++(f2++(f3++f4))/\ai H d1 v1 f1/\ai H d2 v2 f2/\ai H d3 v3 f3/\ai H d4 v4 f4:=by unfold aj at h;obtain⟨_,_,f1,g1,e,rfl,h1,h⟩:=h;cases e;unfold aj at h;obtain⟨_,_,f2,g2,e,rfl,h2,h⟩:=h;cases e;unfold aj at h;obtain⟨_,_,f3,g3,e,rfl,h3,h⟩:=h;cases e;unfold aj at h;obtain⟨_,_,f4,g4,e,rfl,h4,h⟩:=h;cases e;unfold aj at h;obtain⟨_,rfl⟩:=h;exact⟨f1,f2,f3,f4,by simp,h1,h2,h3,h4⟩
theorem aj.in4{f1 f2 f3 f4:Rz}(h1:ai H d1 v1 f1)(h2:ai H d2 v2 f2)(h3:ai H d3 v3 f3)(h4:ai H d4 v4 f4):aj H [d1,d2,d3,d4] [v1,v2,v3,v4] (f1++(f2++(f3++f4))):=by have:=aj.cany h1 (aj.cany h2 (aj.cany h3 (aj.cany h4 (aj.nil (H:=H)))));simpa using this
theorem bD.perm4(h:bD H H' [d3,d1,d4,d2] [v3,v1,v4,v2]):bD H H' [d1,d2,d3,d4] [v1,v2,v3,v4]:=by
 obtain⟨fp,h1,h2,h3⟩:=h;obtain⟨f3,f1,f4,f2,rfl,k3,k1,k4,k2⟩:=aj.out4 h1;have pm:(f1++(f2++(f3++f4))).Perm (f3++(f1++(f4++f2))):=List.perm_iff_count.mpr λa=>by simp only[List.count_append];omega
 exact⟨_,aj.in4 k1 k2 k3 k4,pm.nodup_iff.mpr h2,λa ha=>h3 a (pm.mem_iff.mp ha)⟩
theorem bD.perm4'(h:bD H H' [d3,d4,d1,d2] [v3,v4,v1,v2]):bD H H' [d1,d2,d3,d4] [v1,v2,v3,v4]:=by
 obtain⟨fp,h1,h2,h3⟩:=h;obtain⟨f3,f4,f1,f2,rfl,k3,k4,k1,k2⟩:=aj.out4 h1;have pm:(f1++(f2++(f3++f4))).Perm (f3++(f4++(f1++f2))):=List.perm_iff_count.mpr λa=>by simp only[List.count_append];omega
 exact⟨_,aj.in4 k1 k2 k3 k4,pm.nodup_iff.mpr h2,λa ha=>h3 a (pm.mem_iff.mp ha)⟩
def jK (k:Int):Rw:=if k=0 then[aD 0,aD 1]else[e1,aD 4]
def kh (k c count:Int)(P8 Qh:Rv):Dd:=if k=0 then jL c count P8 Qh else jO c count P8 Qh
def zQ (k:Int)(cells P8 Qh:Rv):Cr:=⟨(eI k).1,(eI k).2,cells.map λc=>kh k c cells.length P8 Qh,cells.map λ_=>jK k⟩
def lT (c:Cr):D:=.lst [bo c.Qg,bo c.P7,.lst (c.P9.map cT),.lst (c.P_.map bo)]
theorem n_:∀{l m:Rv},l.Nodup->(∀ x∈l,x∈m)->l.length<=m.length|[],m,_,_=>O2 _|x::l,m,nd,h=>by obtain⟨n1,n2⟩:=OM.mp nd;have hx:=h x Oi;have ih:=n_ (l:=l) (m:=m.erase x) n2 λy hy=>(List.mem_erase_of_ne (λz=>n1 (by rw[<-z];exact hy))).mpr (h y (Oo _ hy));rw[List.length_erase_of_mem hx]at ih;have:0<m.length:=List.length_pos_of_mem hx;rw[OC];omega
def lM (s:Int)(j:Nat):Rv:=(RD j).map λ(i:Nat)=>(s+(i:Int))%100
theorem LT{j:Nat}(h:j<=100):(lM s j).Nodup:=by unfold lM List.Nodup;rw[List.pairwise_map];refine List.Pairwise.imp_of_mem (λ{a b} ha hb hab=>?_) List.pairwise_lt_range;have:=List.mem_range.mp hb;omega
variable {P8:Rv}
theorem Ki{j:Nat}(h:j<=100)(hm:∀ x∈lM s j,x∈P8):j<=P8.length:=by have:=n_ (LT h) hm;simpa[lM]using this
def cU (v1 v2 v3 v4:V):List (Str×V):=ar "notes" v4 (ar "deeds" v3 (ar "leaves" v2 (ar "needs" v1 [])))
theorem jY (v1 v2 v3 v4:V):(cU v1 v2 v3 v4).lookup ("needs":Str)=some v1:=by unfold cU;rw[fS,Oh (by decide+kernel),fS,Oh (by decide+kernel),fS,Oh (by decide+kernel),fS,Ol rfl]
theorem kI (v1 v2 v3 v4:V):(cU v1 v2 v3 v4).lookup ("leaves":Str)=some v2:=by unfold cU;rw[fS,Oh (by decide+kernel),fS,Oh (by decide+kernel),fS,Ol rfl]
theorem iq (v1 v2 v3 v4:V):(cU v1 v2 v3 v4).lookup ("deeds":Str)=some v3:=by unfold cU;rw[fS,Oh (by decide+kernel),fS,Ol rfl]
theorem lL (v1 v2 v3 v4:V):(cU v1 v2 v3 v4).lookup ("notes":Str)=some v4:=by unfold cU;rw[fS,Ol rfl]
theorem ej{f:Str}{fs:List (Str×V)}(h:fs.length<n):(ar f v fs).length<n+1:=Pt (xU f v fs) (by omega)
def CO (Qg P7:Rw)(P9:List D)(P_:Rx):List D:=[bo Qg,bo P7,.lst P9,.lst (P_.map bo)]
def eZ (K:Fg)(cC:Q2)(H:Hp)(p:Q2)(Qg P7:Rw)(P9:List D)(P_:Rx):Prop:=∃ dx w1 w2 w3 w4,H p=some (.ins cC dx (cU w1 w2 w3 w4))/\al K H (bo Qg) w1/\al K H (bo P7) w2/\al K H (.lst P9) w3/\al K H (.lst (P_.map bo)) w4
variable {K:Fg}
theorem qt{w1 w2 w3 w4:V}(h:au K H [d1,d2,d3,d4] [w1,w2,w3,w4]):al K H d1 w1/\al K H d2 w2/\al K H d3 w3/\al K H d4 w4:=by unfold au at h;obtain⟨_,_,e,h1,h⟩:=h;cases e;unfold au at h;obtain⟨_,_,e,h2,h⟩:=h;cases e;unfold au at h;obtain⟨_,_,e,h3,h⟩:=h;cases e;unfold au at h;obtain⟨_,_,e,h4,h⟩:=h;cases e;exact⟨h1,h2,h3,h4⟩
variable {cC:Q2}
theorem eZ.same{P9:List D}(e:ae H H')(h:eZ K cC H p Qg P7 P9 P_):eZ K cC H' p Qg P7 P9 P_:=by obtain⟨dx,w1,w2,w3,w4,h0,h1,h2,h3,h4⟩:=h;exact⟨dx,w1,w2,w3,w4,e _ _ h0,al.same e _ h1,al.same e _ h2,al.same e _ h3,al.same e _ h4⟩
def iR (K:Fg)(cC:Q2)(H:Hp)(p:Q2)(Qg P7:Rw)(P9:List Dd)(P_:Rx):Prop:=eZ K cC H p Qg P7 (P9.map cT) P_/\∃ dx w1 w2 b3 w4 Qy,H p=some (.ins cC dx (cU w1 w2 (.ref b3) w4))/\H b3=some (.lst Qy)/\kH H P9 Qy
theorem iR.same(e:ae H H')(h:iR K cC H p Qg P7 P9 P_):iR K cC H' p Qg P7 P9 P_:=by obtain⟨h0,dx,w1,w2,b3,w4,Qy,h1,h2,h3⟩:=h;exact⟨h0.same e,dx,w1,w2,b3,w4,Qy,e _ _ h1,e _ _ h2,h3.same e⟩
def calls (K:Fg)(cC:Q2)(H:Hp)(kvs:List (bj×V))(oath:cB):Dd->Prop|.call m _ _ _ _=>∃ o P9 ns,aG kvs (.inl m)=some (.ref o)/\eZ K cC H o (oath m).1 (oath m).2 P9 ns/\fX (oath m).1 (oath m).2 P9.length ns|_=>True
theorem calls.same{oath:cB}(h:calls K cC H kvs oath d)(e:ae H H'):calls K cC H' kvs oath d:=by cases d with
 |call m g0 g1 t0 t1=>obtain⟨o,ds,ns,h1,h2,h3⟩:=h;exact⟨o,ds,ns,h1,h2.same e,h3⟩|_=>trivial
theorem eZ.nod{P9:List D}(e:fG H H')(h:eZ K cC H p Qg P7 P9 P_):eZ K cC H' p Qg P7 P9 P_:=by obtain⟨dx,w1,w2,w3,w4,h0,h1,h2,h3,h4⟩:=h;exact⟨dx,w1,w2,w3,w4,e _ _ h0 (λ_ z=>by cases z),al.sq e.sq _ h1,al.sq e.sq _ h2,al.sq e.sq _ h3,al.sq e.sq _ h4⟩
def sP (ls:Rw)(ws:Rv):Prop:=∀(i:Nat) (l:Rv) (w:Int),ls[i]?=some l->ws[i]?=some w->∀ n∈l,fY n w
theorem j4(h:n<=1000):n<sizeLine:=Pt h (by decide)
structure Cr.Nine (c:Cr):Prop where
 n9:∀ l∈c.Qg,l.length=9
 l9:∀ l∈c.P7,l.length=9
 d9:∀ d∈c.P9,eU d
 o9:∀ ls∈c.P_,ls.length<=100/\∀ l∈ls,l.length=9
 n:c.Qg.length<=100
 l:c.P7.length<=100
 d:c.P9.length<=100
 o:c.P_.length<=100
def Cr.right (c:Cr):Bool:=dI c.Qg c.P7 c.P9 c.P_
structure Cr.Rt (c:Cr):Prop where
 nine:c.Nine
 r:c.right=true
theorem Cr.Rt.parts {c:Cr}(h:c.Rt):c.Qg.length<=2/\c.P7.length<=2/\(1<=c.P9.length/\c.P9.length<=8)/\c.P_.length=c.P9.length/\(∀ ls∈c.P_,ls.length<=2)/\∀ d∈c.P9,bI (c.P9.length:Int) d=true:=by have r:dI c.Qg c.P7 c.P9 c.P_=true:=h.r;simp only[dI,iT,lH,kD,gy,cb,Of,Oj,OT,OJ,OS,id_eq]at r;obtain⟨⟨⟨a1,_⟩,a2,_⟩,⟨⟨b1,b2⟩,b3⟩,c1,c2⟩:=r;exact⟨by omega,by omega,⟨by omega,by omega⟩,by omega,λls hl=>by have:=(c2 ls hl).1;omega,b3⟩
theorem lh(h:cO spots l=true):Sm l:=λn hn=>by simp only[cO,gb,cb,Of,Oj,OT,OJ,OS,id_eq]at h;have:=h.1 n hn;constructor<;>omega
theorem Gi(h9:eU d)(h:bI (n:Int) d=true):oP n d:=by cases d with
 |set hd l=>simp only[bI,Of]at h;exact⟨h9,lh h.2⟩|part hd l b=>simp only[bI,cb,Of,Oj]at h;exact⟨h9,by omega,by omega⟩|draw hd lo hi=>trivial|turn l p=>simp only[bI,cb,Of,Oj]at h;exact⟨h9,h.2.1,h.2.2⟩|hold l=>exact h9|call m g0 g1 t0 t1=>trivial
theorem Cr.Rt.dok {c:Cr}(h:c.Rt):∀ d∈c.P9,oP c.P9.length d:=λd hd=>Gi (h.nine.d9 d hd) (h.parts.2.2.2.2.2 d hd)
theorem Cr.Rt.called {c:Cr}(h:c.Rt){m:Int}(hm:m∈cK c.P9):0<=m/\m<=99:=by obtain⟨d,hd,e⟩:=Er hm;have k:=h.parts.2.2.2.2.2 d hd;cases d with
 |call n g0 g1 t0 t1=>
  have e:n=m:=by injection e
  subst e;simp only[bI,cb,Of,Oj]at k;exact k.2.1|_=>cases e
theorem Cr.Rt.calledMost {c:Cr}(h:c.Rt):∀ m∈cK c.P9,m.natAbs<fE:=λm hm=>by have:=h.called hm;unfold fE;omega
theorem Cr.Rt.good {c:Cr}(h:c.Rt):fX c.Qg c.P7 c.P9.length c.P_ where
 dn:=h.parts.2.2.2.1.symm;d:=h.nine.d;n:=h.nine.n;l:=h.nine.l;n9:=h.nine.n9;l9:=h.nine.l9;o:=h.nine.o9
def tp (cr:Int->Cr):cB:=λm=>((cr m).Qg,(cr m).P7)
def Cr.gs (c:Cr)(cr:Int->Cr):List Du:=oa c.Qg c.P7 c.P9 c.P_ (tp cr)
def nL (g:Du):Prop:=g.1.length=9/\g.2.length<=4/\∀ l∈g.2,l.length=9
theorem mw{E:Rw}(h:∀ x∈E,x.length=9):(ck l E).length=9:=by unfold ck;have:=j5 (ls:=E) (ws:=l.tail) h;cases e:fD E l.tail with
 |nil=>rw[e]at this;simp at this|cons x r=>rw[e]at this;simpa[tH]using this
theorem LS{N A:Rw}{T:Int->Rw}{oath:cB}(hN:N.length<=2/\∀ l∈N,l.length=9)(hA:A.length<=2/\∀ l∈A,l.length=9)(hT:∀ p,(T p).length<=2/\∀ l∈T p,l.length=9)(ok:oP n d)(ho:∀ m,fR d=some m->(oath m).1.length<=2/\(oath m).2.length<=2):
  (dX N A T oath d).length<=4/\∀ g∈dX N A T oath d,nL g:=by
 have two:∀{x y:Rv}{g:Rv},g.length=9->x.length=9->y.length=9->nL (g,N++[x,y]):=λ{x y g} hg hx hy=>⟨hg,by simp;omega,λl hl=>by
  simp only[bW,Oe,OB,OV]at hl;rcases hl with z|z|z
  ·exact hN.2 l z
  ·rw[z];exact hx
  ·rw[z];exact hy⟩
 have one:∀{x:Rv}{g:Rv},g.length=9->x.length=9->nL (g,N++[x]):=λ{x g} hg hx=>⟨hg,by simp;omega,λl hl=>by
  simp only[bW,Oe,OB,OV]at hl;rcases hl with z|z
  ·exact hN.2 l z
  ·rw[z];exact hx⟩
 have nil:∀{g:Rv},g.length=9->nL (g,N):=λhg=>⟨hg,by show N.length<=4;omega,hN.2⟩;have b6:=bO 6;have b7:=bO 7;cases d with
 |set h l=>refine⟨by simp only[dX,aT];omega,λg hg=>?_⟩;obtain⟨x,hx,rfl⟩:=bU.mp hg;exact nil (mw (mW ok.1))|part h l b=>refine⟨by simp only[dX,aT];omega,λg hg=>?_⟩;obtain⟨x,hx,rfl⟩:=bU.mp hg;exact two (mw (mW b6)) (wx ok.1).1 (wx ok.1).2.1|draw h lo hi=>refine⟨by simp only[dX,aT];omega,λg hg=>?_⟩;obtain⟨x,hx,rfl⟩:=bU.mp hg;exact two (mw (mW b6)) (CP (hi:=hi)).1 (CP (lo:=lo)).2|turn l p=>
  refine⟨by have:=(hT p).1;simp only[dX,OA,aT];omega,λg hg=>?_⟩;rcases bW.mp hg with hg|hg
  ·obtain⟨x,hx,rfl⟩:=bU.mp hg;exact one ((hT p).2 x hx) ok.1
  ·obtain⟨x,hx,rfl⟩:=bU.mp hg;exact one (hA.2 x hx) (wx (b:=0) ok.1).2.2|hold l=>
  refine⟨by simp only[dX,OA,aT,OC,List.length_nil];omega,λg hg=>?_⟩;rcases bW.mp hg with hg|hg
  ·rw[bn.mp hg];exact nil ok
  ·obtain⟨x,hx,rfl⟩:=bU.mp hg;exact one (hA.2 x hx) ok|call m g0 g1 t0 t1=>
  have o2:=ho m rfl;refine⟨by simp only[dX,OA,aT];omega,λg hg=>?_⟩;rcases bW.mp hg with hg|hg
  ·obtain⟨x,hx,rfl⟩:=bU.mp hg;exact nil (mw (mV (bO g0) (bO g1)))
  ·obtain⟨x,hx,rfl⟩:=bU.mp hg;refine⟨mw (mV b6 b7),?_,λl hl=>?_⟩
   ·simp only[OA,aT];omega
   ·rcases bW.mp hl with z|z
    ·exact hN.2 l z
    ·obtain⟨y,_,rfl⟩:=bU.mp z;exact mw (mV (bO g0) (bO g1))
theorem EJ{oath:cB}(hD:∀ p,(aH P7 P_ p).length<=2/\∀ l∈aH P7 P_ p,l.length=9):∀(ds:List Dd) (p:Nat),(∀ d∈ds,oP n d)->(∀ d∈ds,∀ m,fR d=some m->(oath m).1.length<=2/\(oath m).2.length<=2)->(iS P7 P_ oath ds p).length<=4*ds.length/\∀ g∈iS P7 P_ oath ds p,nL g
 |[],_,_,_=>⟨On _,λg hg=>by cases hg⟩|d::ds,p,h,ho=>by
  have ih:=EJ hD ds (p+1) (λe he=>h e (Oo _ he)) λe he=>ho e (Oo _ he);have h1:=LS (d:=d) (hD p) (hD ((p:Int)+1)) hD (h d Oi) (ho d Oi);refine⟨?_,λg hg=>?_⟩
  ·show(dX _ _ _ _ d++iS P7 P_ oath ds (p+1)).length<=_;rw[OA,OC];omega
  ·rcases bW.mp (show g∈dX _ _ _ _ d++iS P7 P_ oath ds (p+1)from hg)with z|z
   ·exact h1.2 g z
   ·exact ih.2 g z
variable {cr:Int->Cr}
theorem Cr.Rt.gs{c:Cr}(h:c.Rt)(ho:∀ m∈cK c.P9,(cr m).Rt):(c.gs cr).length<=34/\∀ g∈c.gs cr,nL g:=by
 have hD:∀ p,(aH c.P7 c.P_ p).length<=2/\∀ l∈aH c.P7 c.P_ p,l.length=9:=λp=>⟨G_ h.parts.2.1 h.parts.2.2.2.2.1 p,(h.good.due p).2⟩;have k:=EJ (oath:=tp cr) hD c.P9 0 h.dok λd hd m e=>by have:=ho m (OY.mpr ⟨d,hd,e⟩);exact⟨this.parts.1,this.parts.2.1⟩
 have d8:=h.parts.2.2.1.2;have h0:=(hD 0).1;unfold Cr.gs oa tq;refine⟨by rw[OA,aT];omega,λg hg=>?_⟩;rcases bW.mp hg with z|z
 ·obtain⟨x,_,rfl⟩:=bU.mp z;exact⟨mw zO,by show c.Qg.length<=4;have:=h.parts.1;omega,h.nine.n9⟩
 ·exact k.2 g z
def dH (cC:Q2)(H:Hp)(p:Q2)(c:Cr)(fp:Rz):Prop:=∃ dx w1 w2 w3 w4 f,fp=p::f/\H p=some (.ins cC dx (cU w1 w2 w3 w4))/\aj H (CO c.Qg c.P7 (c.P9.map cT) c.P_) [w1,w2,w3,w4] f
theorem dH.at{c:Cr}(h:dH cC H p c fp):eZ K cC H p c.Qg c.P7 (c.P9.map cT) c.P_:=by obtain⟨dx,w1,w2,w3,w4,f,rfl,hp,r⟩:=h;obtain⟨h1,h2,h3,h4⟩:=qt (aj.reps (K:=K) _ r);exact⟨dx,w1,w2,w3,w4,hp,h1,h2,h3,h4⟩
theorem dH.t{c:Cr}(h9:∀ d∈c.P9,eU d)(h:dH cC H p c fp):iR K cC H p c.Qg c.P7 c.P9 c.P_:=by nomatch h.at;obtain⟨dx,w1,w2,w3,w4,f,rfl,hp,r⟩:=h;obtain⟨x1,x2,x3,x4,f1,f2,f3,f4,e,g1,g2,g3,g4⟩:=vQ r;cases e;obtain⟨b3,dvs',r3,rfl,h3',z3⟩:=ai.lso g3;refine⟨dx,w1,w2,b3,w4,dvs',hp,h3',by simpa using z3.length,λi d x q1 q2=>?_⟩;obtain⟨f,hf⟩:=aj.item z3 i (cT d) x (by rw[aM,q1];rfl) q2;exact tK (tP (h9 d (cq q1))) hf
theorem dH.has{c:Cr}(h:dH cC H p c fp):∀ b∈fp,∃ o,H b=some o:=λb hb=>by
 obtain⟨dx,w1,w2,w3,w4,f,rfl,hp,r⟩:=h;rcases Oe.mp hb with rfl|hb
 ·exact⟨_,hp⟩
 ·exact aj.has _ r b hb
theorem dH.hasN{c:Cr}(h:dH cC H p c fp):∀ b∈fp,∃ o,H b=some o/\∀ kvs,o≠HO.dK kvs:=λb hb=>by
 obtain⟨dx,w1,w2,w3,w4,f,rfl,hp,r⟩:=h;rcases Oe.mp hb with rfl|hb
 ·exact⟨_,hp,λ_ z=>by cases z⟩
 ·obtain⟨xs,e⟩:=aj.hasL _ r b hb;exact⟨_,e,λ_ z=>by cases z⟩
theorem dH.frame{c:Cr}(tk:ci H H')(k:∀ b∈fp,∀ o,H b=some o->H' b=some o)(h:dH cC H p c fp):dH cC H' p c fp:=by obtain⟨dx,w1,w2,w3,w4,f,rfl,hp,r⟩:=h;refine⟨dx,w1,w2,w3,w4,f,rfl,k p Oi _ hp,aj.frame tk _ (λb hb=>?_) r⟩;obtain⟨o,ho⟩:=aj.has _ r b hb;rw[ho];exact k b (Oo _ hb) o ho
theorem dH.same{c:Cr}(e:ae H H')(h:dH cC H p c fp):dH cC H' p c fp:=h.frame e.tups λb _ o ho=>e b o ho
theorem dH.nod{c:Cr}(e:fG H H')(h:dH cC H p c fp):dH cC H' p c fp:=by obtain⟨dx,w1,w2,w3,w4,f,rfl,hp,r⟩:=h;exact⟨dx,w1,w2,w3,w4,f,rfl,e _ _ hp (λ_ z=>by cases z),aj.sq e.sq _ r⟩
def ng (cC:Q2)(H:Hp)(cr:Int->Cr)(fp:Rz)(m:Int)(v:V):Prop:=∃ p f,v=.ref p/\dH cC H p (cr m) f/\∀ b∈f,b∈fp
structure cc (cH cC:Q2)(H:Hp)(h la va:Q2)(ks:Rv)(cr:Int->Cr)(vs:Rv)(fp:Rz):Prop where
 ins:∃ dx,H h=some (.ins cH dx (j8 la va))
 laid:∃ kvs,H la=some (.dK kvs)/\cD (ng cC H cr fp) kvs ks
 vou:∃ kvs,H va=some (.dK kvs)/\cD (λ_ v=>v=.bl true) kvs vs
 ne:la≠va
 rt:∀ m∈ks,(cr m).Rt
 few:ks.length<=60
 sub:∀ m∈vs,m∈ks
 has:∀ b∈fp,∃ o,H b=some o/\∀ kvs,o≠HO.dK kvs
variable {cH:Q2}
section
variable {h:Q2}{vs:Rv}
theorem cc.frame (A:cc cH cC H h la va ks cr vs fp)(tk:ci H H')(k:∀ b,b∈h::la::va::fp->∀ o,H b=some o->H' b=some o):cc cH cC H' h la va ks cr vs fp where
 ins:=by obtain⟨dx,e⟩:=A.ins;exact⟨dx,k _ (by simp) _ e⟩
 laid:=by
  obtain⟨kvs,e,q⟩:=A.laid;exact⟨kvs,k _ (by simp) _ e,q.mono λm v ⟨p,f,e1,e2,e3⟩=>⟨p,f,e1,e2.frame tk λb hb o ho=>k b (by simp[e3 b hb]) o ho,e3⟩⟩
 vou:=by obtain⟨kvs,e,q⟩:=A.vou;exact⟨kvs,k _ (by simp) _ e,q⟩
 ne:=A.ne;rt:=A.rt;few:=A.few;sub:=A.sub;has:=λb hb=>by obtain⟨o,e,n⟩:=A.has b hb;exact⟨o,k b (by simp[hb]) o e,n⟩
theorem cc.same (A:cc cH cC H h la va ks cr vs fp)(e:ae H H'):cc cH cC H' h la va ks cr vs fp:=A.frame e.tups λb _ o ho=>e b o ho
theorem cc.putV{vs':Rv}(A:cc cH cC H h la va ks cr vs fp)(q:cD (λ_ v=>v=.bl true) kvs vs')(s:∀ m∈vs',m∈ks):cc cH cC (upd H va (.dK kvs)) h la va ks cr vs' fp where
 ins:=by
  obtain⟨dx,z⟩:=A.ins;obtain⟨kv0,hv,_⟩:=A.vou;exact⟨dx,by rw[aC (sT z hv (by intro w;cases w))];exact z⟩
 laid:=by
  obtain⟨kv0,hv,_⟩:=A.vou;obtain⟨kl,z,q⟩:=A.laid;exact⟨kl,by rw[aC A.ne];exact z,q.mono λm v ⟨p,f,e1,e2,e3⟩=>⟨p,f,e1,e2.nod (og hv),e3⟩⟩
 vou:=⟨kvs,aq,q⟩;ne:=A.ne;rt:=A.rt;few:=A.few;sub:=s;has:=λb hb=>by
  obtain⟨kv0,hv,_⟩:=A.vou;obtain⟨o,z,n⟩:=A.has b hb;exact⟨o,og hv b o z n,n⟩
theorem cc.dom (A:cc cH cC H h la va ks cr vs fp):∀ b,b∈h::la::va::fp->∃ o,H b=some o:=λb hb=>by
 simp only[Oe]at hb;rcases hb with rfl|rfl|rfl|hb
 ·obtain⟨dx,e⟩:=A.ins;exact⟨_,e⟩
 ·obtain⟨kvs,e,_⟩:=A.laid;exact⟨_,e⟩
 ·obtain⟨kvs,e,_⟩:=A.vou;exact⟨_,e⟩
 ·obtain⟨o,e,_⟩:=A.has b hb;exact⟨o,e⟩
theorem cc.nd (A:cc cH cC H h la va ks cr vs fp):ks.Nodup:=by obtain⟨_,_,q⟩:=A.laid;exact q.2.1
theorem cc.vfew (A:cc cH cC H h la va ks cr vs fp):vs.length<=60:=by obtain⟨_,_,q⟩:=A.vou;have:=n_ q.2.1 A.sub;have:=A.few;omega
end
theorem aX.putDict(e:aX S H H'){T:Rz}(h:∀ b∈S,b∈T):aX T H H':=λb o n z=>e b o (λw=>n (h b w)) z
variable {dx:Q2}
theorem cc.start{h:Q2}(h1:H h=some (.ins cH dx (j8 la va)))(h2:H la=some (.dK []))(h3:H va=some (.dK []))(ne:la≠va):cc cH cC H h la va [] cr [] [] where
 ins:=⟨dx,h1⟩;laid:=⟨[],h2,cD.nil⟩;vou:=⟨[],h3,cD.nil⟩;ne:=ne;rt:=λm hm=>by cases hm
 few:=O2 _;sub:=λm hm=>by cases hm
 has:=λm hm=>by cases hm
variable {ha:Q2}
theorem KA{u x:HO}(ha0:H ha=none)(dx0:H dx=none)(o1:aX [ha] (upd (upd H dx u) ha x) H1):ae H H1:=λb o e=>o1 b o (by simp[cj e ha0]) (by rw[aC (cj e ha0),aC (cj e dx0)];exact e)
def fC (ks:Rv)(cr:Int->Cr)(n:Int):Rv:=if n∈ks then cK (cr n).P9 else[]
def eM (cr:Int->Cr)(n:Int)(c:Cr):Int->Cr:=λm=>if m=n then c else cr m
theorem EI:∀{a b:Rw},cZ (a.map nums) (b.map nums)=decide (a=b)|[],[]=>by unfold Sa cZ;rfl|[],_::_=>by rw[bX];unfold Sa cZ;simp|_::_,[]=>by rw[bX];unfold Sa cZ;simp|m::ms,n::ns=>by rw[bX,bX];unfold cZ nums aO;rw[EI,xB,Pa];simp
theorem Ep {a b:Rw}:aO (bo a) (bo b)=decide (a=b):=by unfold bo aO;exact EI
noncomputable def gL:Option (Int×Rv)->D|none=>.non|some (w,ws)=>.tup [.int w,nums ws]
variable {Q:VK}
theorem Bv{n:Int}{a:Q2}(h:ao K H a (l.map V.int))(q:Q (.bl (decide (n∈l))) H):uH K false (.int n) (.ref a) H Q:=rB (.inl h) rfl (KG _) (by rw[DK];exact q)
theorem EH{m:Int}(nd:l.Nodup)(e:l[i]?=some m):m∉l.take i:=by obtain⟨hi,rfl⟩:=d7.mp e;intro z;rw[<-List.take_append_drop i l,Pf hi]at nd;exact(O3.mp nd).2.2 _ z _ Oi rfl
theorem ww{d e f g:Int}(h:∀ x∈[a,b,c,d,e,f,g],-1000000000<=x/\x<=1000000000):cO [7,8] [a,b,c,d,e,f,g,0,0]=true:=by simp only[Oe,OB,OV,forall_eq_or_imp,forall_eq]at h;simp[cO,gb,cb];omega
theorem wv (c:Int):cO [7,8] (ki c)=true:=by refine ww (a:=aE c (5*(0+((0:Nat):Int)))) (b:=aE c (5*(0+((1:Nat):Int)))) (c:=aE c (5*(0+((2:Nat):Int)))) (d:=aE c (5*(0+((3:Nat):Int)))) (e:=aE c (5*(0+((4:Nat):Int)))) (f:=aE c (5*(0+((5:Nat):Int)))) (g:=aE c (5*(0+((6:Nat):Int)))) λx hx=>?_;push_cast at hx;rcases hx with rfl|rfl|rfl|rfl|rfl|rfl|rfl<;>exact oC _ _
theorem tN{n:Int}(hn:0<=n):bI n (kA c n)=true/\eU (kA c n):=by
 unfold kA;split
 ·have k1:=gF (c:=c) (k:=30) (m:=n+1) (by omega);have k2:=gu (c:=c) (k:=30) (m:=n+1) (by omega);refine⟨?_,wO _⟩;simp only[bI,wv,cb,OG,Of,Oj];omega
 split
 ·refine⟨?_,wO _⟩;simp only[bI,b5,wv,cb,O4,Of,Oj];omega
 ·have k1:=oC (c/5) 31;have k2:=oC (c/7) 32;refine⟨?_,trivial⟩;simp only[bI,b5,gb,cb,Of,Oj];split<;>omega
theorem CZ(h:i<l.length):l.getD i 0∈l:=by rw[OD,Om h];exact OO h
theorem Ce(h:0<P8.length):iO c P8<P8.length:=by have a1:=OU (c/48) (show((P8.length:Nat):Int)≠0 by omega);have a2:=OQ (c/48) (show(0:Int)<(P8.length:Int)by omega);unfold iO;omega
theorem LR{n:Int}{Qh:Rv}(hn:0<=n)(h0:0<P8.length)(nb:∀ m∈P8,0<=m/\m<100):bI n (jL c n P8 Qh)=true/\eU (jL c n P8 Qh)/\∀ m,fR (jL c n P8 Qh)=some m->m∈P8:=by
 have hm:=EK c;have hl:∀{x y:Int},0<=x/\x<=1->0<=y/\y<=1->cO [7,8] [cP c,x,y,0,0,0,0,0,0]=true:=λ{x y} hx hy=>ww λz hz=>by push_cast at hz;rcases hz with rfl|rfl|rfl|rfl|rfl|rfl|rfl<;>omega
 have mm:=CZ (Ce (c:=c) h0);have mb:=nb _ mm;unfold jL;split
 ·refine⟨?_,rfl,λm e=>by cases e⟩;simp only[bI,b5,cb,hl (x:=1) (y:=1) (by omega) (by omega),O4,Of,Oj];omega
 split
 ·refine⟨?_,rfl,λm e=>by cases e⟩;simp only[bI,b5,cb,hl (x:=c/24%2) (y:=1 - c/24%2) (by omega) (by omega),O4,Of,Oj];omega
 split
 ·refine⟨?_,rfl,λm e=>by cases e⟩;simp only[bI,b5,cb,hl (x:=1) (y:=c/48%2) (by omega) (by omega),OG,Of,Oj];omega
 split
 ·refine⟨?_,trivial,λm e=>by cases e⟩;simp only[bI,b5,gb,cb,Of,Oj];split<;>omega
 split
 ·refine⟨?_,rfl,λm e=>by cases e⟩;simp only[bI,hl (x:=1) (y:=c/24%2) (by omega) (by omega)]
 split
 ·split
  ·refine⟨?_,trivial,λm e=>by injection e with e;rw[<-e];exact mm⟩;simp only[bI,b5,cb,O_,Ps,id,O4,Of,Bool.not_eq_true',Oj,decide_eq_false_iff_not];omega
  ·refine⟨?_,trivial,λm e=>by injection e with e;rw[<-e];exact mm⟩;simp only[bI,b5,cb,O_,Ps,id,O4,Of,Bool.not_eq_true',Oj,decide_eq_false_iff_not];omega
 ·refine⟨(tN hn).1,(tN hn).2,λm e=>?_⟩;unfold kA at e;split at e
  ·cases e
  split at e<;>cases e
theorem L7{n:Int}{Qh:Rv}(hn:0<=n)(h0:0<P8.length)(nb:∀ m∈P8,0<=m/\m<100):bI n (jO c n P8 Qh)=true/\eU (jO c n P8 Qh)/\∀ m,fR (jO c n P8 Qh)=some m->m∈P8:=by
 have hm:=EK c;have hl:∀{x:Int},-1<=x/\x<=1->cO [7,8] [cP c,1,0,0,0,x,0,0,0]=true:=λ{x} hx=>ww λz hz=>by push_cast at hz;rcases hz with rfl|rfl|rfl|rfl|rfl|rfl|rfl<;>omega
 have mm:=CZ (Ce (c:=c) h0);have mb:=nb _ mm;unfold jO;split
 ·refine⟨?_,rfl,λm e=>by cases e⟩;simp only[bI,b5,cb,hl (x:=0) (by omega),O4,Of,Oj];omega
 split
 ·refine⟨?_,rfl,λm e=>by cases e⟩;simp only[bI,b5,cb,hl (x:=0) (by omega),OG,Of,Oj];omega
 split
 ·refine⟨?_,rfl,λm e=>by cases e⟩;simp only[bI,hl (x:=-(c/24%2)) (by omega)]
 split
 ·refine⟨?_,wO _,λm e=>by cases e⟩;simp only[bI,b5,cb,wv,O4,Of,Oj];omega
 split
 ·split
  ·refine⟨?_,trivial,λm e=>by injection e with e;rw[<-e];exact mm⟩;simp only[bI,b5,cb,O_,Ps,id,O4,Of,Bool.not_eq_true',Oj,decide_eq_false_iff_not];omega
  ·refine⟨?_,trivial,λm e=>by injection e with e;rw[<-e];exact mm⟩;simp only[bI,b5,cb,O_,Ps,id,O4,Of,Bool.not_eq_true',Oj,decide_eq_false_iff_not];omega
 ·refine⟨(tN hn).1,(tN hn).2,λm e=>?_⟩;unfold kA at e;split at e
  ·cases e
  split at e<;>cases e
theorem EG{k n:Int}{Qh:Rv}(hn:0<=n)(h0:0<P8.length)(nb:∀ m∈P8,0<=m/\m<100):bI n (kh k c n P8 Qh)=true/\eU (kh k c n P8 Qh)/\∀ m,fR (kh k c n P8 Qh)=some m->m∈P8:=by
 unfold kh;split
 ·exact LR hn h0 nb
 ·exact L7 hn h0 nb
structure lW (many size:Int)(P8 Qh:Rv)(cells:Nat->Rv):Prop where
 n:P8.length=many.toNat
 k:Qh.length=many.toNat
 nd:P8.Nodup
 nb:∀ n∈P8,0<=n/\n<100
 kb:∀ k∈Qh,k=0\/k=1
 c:∀ i,1<=(cells i).length/\(cells i).length<=size.toNat
def jo (P8 Qh:Rv)(cells:Nat->Rv)(k:Nat):Cr:=zQ (Qh.getD k 0) (cells k) P8 Qh
theorem pA (k:Int):iT (eI k).1 (eI k).2=true/\(∀ l∈(eI k).1,l.length=9)/\(∀ l∈(eI k).2,l.length=9)/\(eI k).1.length<=2/\(eI k).2.length<=2:=by unfold eI;split<;>decide
theorem xl (k:Int):gy [7,8] (jK k)=true/\(∀ l∈jK k,l.length=9)/\(jK k).length<=2:=by unfold jK;split<;>decide
theorem qr {k:Int}{ds:List Dd}{no:Rx}(h1:1<=ds.length)(h8:ds.length<=8)(hd:∀ d∈ds,bI (ds.length:Int) d=true/\eU d)(hn:no.length=ds.length)(ho:∀ ls∈no,ls=jK k):Cr.Rt ⟨(eI k).1,(eI k).2,ds,no⟩ where
 nine:=⟨(pA k).2.1,(pA k).2.2.1,λd m=>(hd d m).2,λls m=>by rw[ho ls m];exact⟨by have:=(xl k).2.2;omega,(xl k).2.1⟩,by have:=(pA k).2.2.2.1;show(eI k).1.length<=100;omega,by have:=(pA k).2.2.2.2;show(eI k).2.length<=100;omega,by show ds.length<=100;omega,by show no.length<=100;omega⟩;r:=by
  show dI (eI k).1 (eI k).2 ds no=true;unfold dI;rw[(pA k).1,OG];unfold lH kD cb;simp only[Of,Oj,OT,OJ,OS,id_eq];refine⟨⟨⟨by omega,by omega⟩,λd m=>(hd d m).1⟩,by omega,λls m=>?_⟩;rw[ho ls m];exact(xl k).1
variable {many size:Int}
theorem lW.rt{Qh:Rv}{cells:Nat->Rv}(h:lW many size P8 Qh cells)(hm:1<=many)(hs:size<=8)(k:Nat):(jo P8 Qh cells k).Rt:=by
 have hc:=h.c k;have hn:=h.n;refine qr (by simp[hc.1]) (by simp;omega) (λd m=>?_) (by simp) (λls m=>?_)
 ·obtain⟨c,_,rfl⟩:=bU.mp m;rw[aT];have:=EG (k:=Qh.getD k 0) (c:=c) (n:=(cells k).length) (Qh:=Qh) (by omega) (show 0<P8.length by omega) h.nb;exact⟨this.1,this.2.1⟩
 ·obtain⟨c,_,rfl⟩:=bU.mp m;rfl
theorem lW.calls{Qh:Rv}{cells:Nat->Rv}(h:lW many size P8 Qh cells)(hm:1<=many)(k:Nat):∀ m∈cK (jo P8 Qh cells k).P9,m∈P8:=λm mm=>by have hn:=h.n;obtain⟨d,hd,e⟩:=Er mm;obtain⟨c,_,rfl⟩:=bU.mp hd;exact(EG (k:=Qh.getD k 0) (c:=c) (n:=(cells k).length) (Qh:=Qh) (by omega) (show 0<P8.length by omega) h.nb).2.2 m e
def mE (gs:List Du):Prop:=∀ g∈gs,ic g
theorem o_.nod(e:fG H H')(h:o_ H v Qg P7 P9 P_):o_ H' v Qg P7 P9 P_:=by obtain⟨pa,y1,y2,a3,a4,Qy,QI,rfl,h1,h2,h3,h4,h5,h6,h7⟩:=h;have el:∀{b xs},H b=some (.lst xs)->H' b=some (.lst xs):=λz=>e _ _ z (λ_ w=>by cases w);exact⟨pa,y1,y2,a3,a4,Qy,QI,rfl,el h1,h2.nod e,h3.nod e,el h4,el h5,R2.mono h6 λ_ _ z=>z.sq e.sq,h7.mono λ_ _ ⟨b,e1,e2⟩=>⟨b,e1,e2.nod e⟩⟩
def Cr.at (c:Cr)(H:Hp)(v:V):Prop:=o_ H v c.Qg c.P7 c.P9 c.P_
def IS (H:Hp)(pl:Q2)(ps:List (Int×Cr)):Prop:=∃ vs,H pl=some (.lst vs)/\R2 (λp v=>∃ T w,v=.ref T/\H T=some (.tup [.int p.1,w])/\p.2.at H w) ps vs
theorem Kz{c:Cr}{f:Rz}(h9:∀ d∈c.P9,eU d)(h:ai H (lT c) v f):c.at H v:=by
 unfold lT ai at h;obtain⟨pa,pvs,fp,rfl,rfl,pa1,pr⟩:=h;obtain⟨x1,x2,x3,x4,f1,f2,f3,f4,rfl,g1,g2,g3,g4⟩:=vQ pr;obtain⟨y1,rfl,hy1⟩:=ai.ls g1;obtain⟨y2,rfl,hy2⟩:=ai.ls g2;obtain⟨b3,Qy,r3,rfl,h3,z3⟩:=ai.lso g3;obtain⟨b4,QI,r4,rfl,h4,z4⟩:=ai.lso g4;refine⟨pa,y1,y2,b3,b4,Qy,QI,rfl,pa1,hy1,hy2,h3,h4,⟨by simpa using z3.length,λi d x e1 e2=>?_⟩,⟨by simpa using z4.length,λi ls x e1 e2=>?_⟩⟩
 ·obtain⟨f,hf⟩:=aj.item z3 i (cT d) x (by rw[aM,e1];rfl) e2;exact tK (tP (h9 d (cq e1))) hf
 ·obtain⟨f,hf⟩:=aj.item z4 i (bo ls) x (by rw[aM,e1];rfl) e2;exact ai.ls hf
def mi (p:Int×Cr):D:=.tup [.int p.1,lT p.2]
theorem IR{p:Int×Cr}{f:Rz}(h:ai H (mi p) v f):∃ T w,v=.ref T/\H T=some (.tup [.int p.1,w])/\ai H (lT p.2) w f:=by unfold mi ai at h;obtain⟨T,xs,rfl,hT,hx⟩:=h;unfold aj at hx;obtain⟨x1,r1,f1,g1,rfl,rfl,h1,hx⟩:=hx;unfold aj at hx;obtain⟨x2,r2,f2,g2,rfl,rfl,h2,hx⟩:=hx;unfold aj at hx;obtain⟨rfl,rfl⟩:=hx;unfold ai at h1;obtain⟨rfl,rfl⟩:=h1;exact⟨T,x2,rfl,hT,by simpa using h2⟩
theorem LQ{ps:List (Int×Cr)}{vs:Ry}(h9:∀ p∈ps,∀ d∈p.2.P9,eU d)(h:aj H (ps.map mi) vs fp):R2 (λp v=>∃ T w,v=.ref T/\H T=some (.tup [.int p.1,w])/\p.2.at H w) ps vs:=⟨by simpa using h.length,λi p v e1 e2=>by obtain⟨f,hf⟩:=aj.item h i (mi p) v (by rw[aM,e1];rfl) e2;obtain⟨T,w,a1,a2,a3⟩:=IR hf;exact⟨T,w,a1,a2,Kz (h9 p (cq e1)) a3⟩⟩
theorem Ky{H0:Hp}{ps:List (Int×Cr)}(h9:∀ p∈ps,∀ d∈p.2.P9,eU d)(n:ak H0 H (.lst (ps.map mi)) v):∃ pl,v=.ref pl/\H0 pl=none/\IS H pl ps:=by obtain⟨pl,vs,fp,rfl,p0,p1,pr,_⟩:=ak.lso n;exact⟨pl,rfl,p0,vs,p1,LQ h9 pr⟩
theorem R2.set{P:α->V->Prop}{as:List α}(h:R2 P as xs)(i:Nat){a:α}(p:P a x):R2 P (as.set i a) (xs.set i x):=⟨by simp[h.1],λj b y e1 e2=>by
 rw[List.getElem?_set]at e1 e2;by_cases z:i=j
 ·rw[Ol z]at e1 e2;split at e1
  ·split at e2
   ·cases e1;cases e2;exact p
   ·cases e2
  ·cases e1
 ·rw[Oh z]at e1 e2;exact h.2 j b y e1 e2⟩
def kU (ps:List (Int×Cr))(m:Int):Cr:=(ps.lookup m).getD ⟨[],[],[],[]⟩
theorem CY:∀{ps:List (Int×Cr)}{i:Nat}{n:Int}{c:Cr},(ps.map (·.1)).Nodup->ps[i]?=some (n,c)->kU ps n=c
 |[],i,n,c,_,e=>by simp at e|(m,d)::ps,0,n,c,_,e=>by simp only[List.getElem?_cons_zero,Option.some.injEq,Prod.mk.injEq]at e;obtain⟨rfl,rfl⟩:=e;simp[kU,RY]|(m,d)::ps,i+1,n,c,nd,e=>by
  have e':ps[i]?=some (n,c):=by simpa using e
  have nd':=OM.mp (show(m::ps.map (·.1)).Nodup from nd);have ne:¬ n=m:=λz=>nd'.1 (by rw[<-z];exact bU.mpr ⟨(n,c),cq e',rfl⟩);have ih:=CY nd'.2 e';unfold kU at ih ⊢;rw[Pe,show(n==m)=false by simpa using ne];exact ih
def kN (P8 Qh:Rv)(cells:Nat->Rv)(many:Nat):List (Int×Cr):=(RD many).map λk=>(P8.getD k 0,jo P8 Qh cells k)
theorem L6 (P8 Qh:Rv)(cells:Nat->Rv)(many:Nat):(kN P8 Qh cells many).map mi=(RD many).map λk=>D.tup [.int (P8.getD k 0),lT (jo P8 Qh cells k)]:=by unfold kN;rw[OZ];rfl
theorem KF:(RD l.length).map (λk=>l.getD k 0)=l:=by refine List.ext_getElem (by simp) λi h1 h2=>?_;simp[List.getD,h2]
structure gQ (P8 Qh:Rv)(ps:List (Int×Cr)):Prop where
 nums:ps.map (·.1)=P8
 nd:P8.Nodup
 nb:∀ n∈P8,0<=n/\n<100
 rt:∀ p∈ps,p.2.Rt
 calls:∀ p∈ps,∀ m∈cK p.2.P9,m∈P8
 kl:Qh.length=P8.length
 oath:∀(i:Nat) p,ps[i]?=some p->p.2.Qg=(eI (Qh.getD i 0)).1/\p.2.P7=(eI (Qh.getD i 0)).2
theorem gQ.len{Qh:Rv}{ps:List (Int×Cr)}(h:gQ P8 Qh ps):ps.length=P8.length:=by rw[<-h.nums,aT]
theorem gQ.ndp{Qh:Rv}{ps:List (Int×Cr)}(h:gQ P8 Qh ps):(ps.map (·.1)).Nodup:=by rw[h.nums];exact h.nd
theorem gQ.get{Qh:Rv}{ps:List (Int×Cr)}(h:gQ P8 Qh ps){p:Int×Cr}(e:ps[i]?=some p):P8[i]?=some p.1/\kU ps p.1=p.2:=by refine⟨by rw[<-h.nums,aM,e];rfl,CY (i:=i) h.ndp (by rw[e])⟩
theorem lW.ps{Qh:Rv}{cells:Nat->Rv}(h:lW many size P8 Qh cells)(hm:1<=many)(hs:size<=8):gQ P8 Qh (kN P8 Qh cells many.toNat) where
 nums:=by
  unfold kN;rw[OZ,<-h.n];exact KF
 nd:=h.nd;nb:=h.nb;rt:=λp hp=>by
  obtain⟨k,_,rfl⟩:=bU.mp hp;exact h.rt hm hs k
 calls:=λp hp=>by
  obtain⟨k,_,rfl⟩:=bU.mp hp;exact h.calls hm k
 kl:=by rw[h.k,h.n]
 oath:=λi p e=>by
  unfold kN at e;rw[aM]at e;obtain⟨k,hk,rfl⟩:=bV.mp e;have:k=i:=by
   rw[O1 (by have:=(d7.mp hk).1;simpa using this)]at hk;exact(OL hk).symm
  subst this;exact⟨rfl,rfl⟩
structure Fm where
 n:Int
 p:Int
 Qi:Rv
 asked:Rv
def cA (f:Fm):Rv:=f.Qi++f.asked++f.Qi.take 2
def cL (ls:Rw)(ns:Rv):Option Nat:=ls.findIdx? λl=>decide (aU l ns<0)
abbrev iD:=Option Ry
def brk (w:Str)(f:Fm)(i:Nat):Ry:=[.str "broken",.str w,.int f.n,.int f.p,.int (i:Int)]
def fz (c:Cr)(p:Int):Option Dd:=c.P9[p.toNat]?
def wu:Option Dd->Int×Int|some (.call _ _ _ t0 t1)=>(t0,t1)|_=>(0,1)
noncomputable def gW (cr:Int->Cr) (g:Fm) (l0 l1:Int):Fm:={g with Qi:=(g.Qi.set (wu (fz (cr g.n) g.p)).1.toNat l0).set (wu (fz (cr g.n) g.p)).2.toNat l1,p:=g.p+1}
def nj (f:Fm):Ry:=[.str "done",.int (f.Qi.getD 0 0),.int (f.Qi.getD 1 0)]
def iK (cr:Int->Cr)(f:Fm):iD:=(cL ((cr f.n).P_.getD f.p.toNat []) (cA f)).map (brk "notes" f)
def bE (cr:Int->Cr):Fm->List Fm->List Fm×iD
 |f,[]=>if f.p=((cr f.n).P9.length:Int)then(match cL (cr f.n).P7 (cA f)with|some i=>([f],some (brk "leaves" f i))|none=>([],some (nj f)))else([f],iK cr f)|f,g::st=>if f.p=((cr f.n).P9.length:Int)then(match cL (cr f.n).P7 (cA f)with|some i=>(f::g::st,some (brk "leaves" f i))|none=>bE cr (gW cr g (f.Qi.getD 0 0) (f.Qi.getD 1 0)) st)else(f::g::st,iK cr f)
structure Rs where
 st:List Fm
 ins:Rv
 k:Int
 en:iD
def du (cr:Int->Cr)(s:Rs)(f:Fm)(st:List Fm):Rs:={s with st:=(bE cr f st).1,en:=(bE cr f st).2}
def e_ (cr:Int->Cr)(s:Rs)(f:Fm)(st:List Fm)(h x:Int):Rs:=du cr s {f with Qi:=f.Qi.set h.toNat x,p:=f.p+1} st
def ij (a0 a1:Int):Rv:=[0,0,0,0,a0,a1,0,0]
def eX (n a0 a1:Int):Fm:=⟨n,0,[a0,a1,0,0],[a0,a1]⟩
def cJ (cr:Int->Cr)(ks:Rv)(s:Rs)(f:Fm)(st:List Fm):Dd->Rs
 |.set h l=>e_ cr s f st h (aU l (cA f))|.part h l b=>e_ cr s f st h (aU l (cA f)/b)|.draw h lo hi=>match s.ins with
  |[]=>{s with en:=some [.str "dry"]}|x::r=>if lo<=x/\x<=hi then e_ cr {s with ins:=r} f st h x else {s with ins:=r,en:=some [.str "stray"]}
 |.turn l q=>du cr s {f with p:=if 0<=aU l (cA f)then q else f.p+1} st|.hold l=>match cL [l] (cA f)with
  |some i=>{s with en:=some (brk "hold" f i)}|none=>du cr s {f with p:=f.p+1} st
 |.call m g0 g1 _ _=>if m∉ks then {s with en:=some [.str "lost"]}else if 20<=(f::st).length then {s with en:=some [.str "deep"]}else
   match cL (cr m).Qg (ij (f.Qi.getD g0.toNat 0) (f.Qi.getD g1.toNat 0))with
   |some i=>{s with en:=some (brk "needs" f i)}|none=>du cr s (eX m (f.Qi.getD g0.toNat 0) (f.Qi.getD g1.toNat 0)) (f::st)
def eV (cr:Int->Cr)(ks:Rv)(s:Rs):Rs:=match s.st with|[]=>s|f::st=>match fz (cr f.n) f.p with|none=>s|some d=>cJ cr ks {s with k:=s.k+1} f st d
def de (cr:Int->Cr)(ks:Rv):Nat->Rs->Rs|0,s=>s|n+1,s=>if s.en=none then de cr ks n (eV cr ks s)else s
structure iP (ks:Rv)(cr:Int->Cr)(f:Fm):Prop where
 m:f.n∈ks
 p0:0<=f.p
 pn:f.p<=((cr f.n).P9.length:Int)
 h4:f.Qi.length=4
 a2:f.asked.length=2
def nK (cr:Int->Cr)(f:Fm):Prop:=∃ m g0 g1 t0 t1,fz (cr f.n) f.p=some (.call m g0 g1 t0 t1)
def Wf (ks:Rv)(cr:Int->Cr)(st:List Fm):Prop:=(∀ f∈st,iP ks cr f)/\∀ f∈st.tail,nK cr f
variable {st:List Fm}
theorem Wf.tail{f:Fm}(h:Wf ks cr (f::st)):Wf ks cr st:=⟨λg hg=>h.1 g (Oo _ hg),λg hg=>h.2 g (List.mem_of_mem_tail hg)⟩
theorem nK.lt{f:Fm}(h:nK cr f):f.p.toNat<(cr f.n).P9.length:=by obtain⟨m,g0,g1,t0,t1,e⟩:=h;exact(d7.mp e).1
theorem wN{g:Fm}{l0 l1:Int}(h:iP ks cr g)(c:nK cr g):iP ks cr (gW cr g l0 l1) where
 m:=h.m;p0:=by have:=h.p0;show 0<=g.p+1;omega
 pn:=by have:=c.lt;have:=h.p0;show g.p+1<=((cr g.n).P9.length:Int);omega
 h4:=by unfold gW;simp[h.h4]
 a2:=h.a2
theorem wr:∀{f:Fm}{st:List Fm},Wf ks cr (f::st)->Wf ks cr (bE cr f st).1/\((bE cr f st).2=none->∃ g r,(bE cr f st).1=g::r/\g.p<((cr g.n).P9.length:Int))
 |f,[],h=>by
  unfold bE;split
  ·split
   ·exact⟨h,λz=>by cases z⟩
   ·exact⟨⟨λg hg=>(by cases hg),λg hg=>(by cases hg)⟩,λz=>(by cases z)⟩
  ·rename_i ne;exact⟨h,λ_=>⟨f,[],rfl,by have:=(h.1 f Oi).pn;omega⟩⟩|f,g::st,h=>by
  unfold bE;split
  ·split
   ·exact⟨h,λz=>by cases z⟩
   ·refine wr ⟨λk hk=>?_,λk hk=>h.tail.2 k hk⟩;rcases Oe.mp hk with rfl|hk
    ·exact wN (h.tail.1 g Oi) (h.2 g Oi)
    ·exact h.tail.1 k (Oo _ hk)
  ·rename_i ne;exact⟨h,λ_=>⟨f,g::st,rfl,by have:=(h.1 f Oi).pn;omega⟩⟩
structure iB (ks:Rv)(cr:Int->Cr)(s:Rs):Prop where
 w:Wf ks cr s.st
 on:s.en=none->∃ f st,s.st=f::st/\f.p<((cr f.n).P9.length:Int)
variable {s:Rs}
theorem mD{f:Fm}(h:Wf ks cr (f::st)):iB ks cr (du cr s f st):=⟨(wr h).1,(wr h).2⟩
theorem Wf.top{f g:Fm}(h:Wf ks cr (f::st))(w:iP ks cr g):Wf ks cr (g::st):=⟨λk hk=>by
 rcases Oe.mp hk with rfl|hk
 ·exact w
 ·exact h.1 k (Oo _ hk),h.2⟩
theorem uf{n:Int}{m:Int}(h:bI n (.call m g0 g1 t0 t1)=true):(0<=g0/\g0<=3)/\(0<=g1/\g1<=3)/\(0<=t0/\t0<=3)/\(0<=t1/\t1<=3)/\0<=m/\m<=99:=by simp only[bI,b5,cb,O_,Ps,id,O4,Of,Oj]at h;omega
theorem DG(hrt:∀ m∈ks,(cr m).Rt)(h:iB ks cr s)(he:s.en=none):iB ks cr (eV cr ks s):=by
 obtain⟨f,st,e,hp⟩:=h.on he;have hw:=h.w;rw[e]at hw;have wf:=hw.1 f Oi;have hlt:f.p.toNat<(cr f.n).P9.length:=by have:=wf.p0;omega
 have ok:=(hrt f.n wf.m).parts.2.2.2.2.2;unfold eV;rw[e];dsimp only;unfold fz;rw[Om hlt];dsimp only;have hok:=ok _ (OO hlt);have hd:fz (cr f.n) f.p=some (cr f.n).P9[f.p.toNat]:=Om hlt;generalize (cr f.n).P9[f.p.toNat]=d at*;have up:∀ x,iP ks cr {f with Qi:=x,p:=f.p+1}↔x.length=4:=λx=>⟨λz=>z.h4,λz=>⟨wf.m,by have:=wf.p0;show 0<=f.p+1;omega,by show f.p+1<=((cr f.n).P9.length:Int);omega,z,wf.a2⟩⟩;have same:∀(x:Rv) (y:Int) (z:Ry),iB ks cr ({st:=f::st,ins:=x,k:=y,en:=some z}:Rs):=λx y z=>⟨hw,λw=>by cases w⟩;cases d with
 |set hd l=>exact mD (hw.top ((up _).mpr (by simp[wf.h4])))|part hd l b=>exact mD (hw.top ((up _).mpr (by simp[wf.h4])))|draw hd lo hi=>
  unfold cJ;dsimp only;split
  ·exact same _ _ _
  ·split
   ·exact mD (hw.top ((up _).mpr (by simp[wf.h4])))
   ·exact same _ _ _|turn l q=>
  simp only[bI,cb,Of,Oj]at hok;refine mD (hw.top ⟨wf.m,?_,?_,wf.h4,wf.a2⟩)
  ·dsimp only;have:=wf.p0;split<;>omega
  ·dsimp only;split<;>omega|hold l=>
  unfold cJ;dsimp only;split
  ·exact same _ _ _
  ·exact mD (hw.top ((up f.Qi).mpr wf.h4))|call m g0 g1 t0 t1=>
  unfold cJ;dsimp only;split
  ·exact same _ _ _
  ·rename_i mk;split
   ·exact same _ _ _
   ·split
    ·exact same _ _ _
    ·refine mD ⟨λk hk=>?_,λk hk=>?_⟩
     ·rcases Oe.mp hk with rfl|hk
      ·exact⟨Pg λz=>mk z,by show(0:Int)<=0;omega,by show(0:Int)<=_;omega,rfl,rfl⟩
      ·exact hw.1 k hk
     ·rcases Oe.mp (show k∈f::st from hk)with rfl|hk
      ·exact⟨m,g0,g1,t0,t1,hd⟩
      ·exact hw.2 k hk
theorem CW(h:s.en≠none):∀ n,de cr ks n s=s|0=>rfl|n+1=>by unfold de;rw[Oh h]
variable {r:List (Str×V)}
theorem dS{k x:Str}(h:(k==x)=false):RY k ((x,v)::r)=RY k r:=by simp[RY,h]
theorem kg{k:Str}:RY k ((k,v)::r)=some v:=by simp[RY]
theorem jz{k x:Str}{w:V}(h:¬ x=k):ar k v ((x,w)::r)=(x,w)::ar k v r:=by show(if x=k then _ else _)=_;rw[Oh h]
theorem vg{k:Str}{w:V}:ar k v ((k,w)::r)=(k,v)::r:=by show(if k=k then _ else _)=_;rw[Ol rfl]
theorem Cd{k:Str}:ar k v []=[(k,v)]:=rfl
noncomputable def dZ (n p:Int) (ha aa:Q2):List (Str×V):=[("number",.int n),("place",.int p),("hands",.ref ha),("asked",.ref aa)]
theorem xk (n p:Int)(ha aa:Q2):(dZ n p ha aa).lookup ("number":Str)=some (.int n):=kg
theorem jX (n p:Int)(ha aa:Q2):(dZ n p ha aa).lookup ("place":Str)=some (.int p):=by unfold dZ;rw[dS (by decide+kernel)];exact kg
theorem iY (n p:Int)(ha aa:Q2):(dZ n p ha aa).lookup ("hands":Str)=some (.ref ha):=by unfold dZ;rw[dS (by decide+kernel),dS (by decide+kernel)];exact kg
theorem IQ (n p:Int)(ha aa:Q2):(dZ n p ha aa).lookup ("asked":Str)=some (.ref aa):=by unfold dZ;rw[dS (by decide+kernel),dS (by decide+kernel),dS (by decide+kernel)];exact kg
variable {aa:Q2}
theorem ni{n p:Int}{m:Str}(h: ~~~((m =="number" ||(m =="place" ||(m =="hands" ||m =="asked")))=false)):(dZ n p ha aa).lookup m=none:=by simp only[Bool.or_eq_false_iff]at h;obtain⟨h1,h2,h3,h4⟩:=h;unfold dZ;rw[dS h1,dS h2,dS h3,dS h4];rfl
variable {q:Int}
theorem BX{n p:Int}:ar "place" (.int q) (dZ n p ha aa)=dZ n q ha aa:=by unfold dZ;rw[jz (by decide+kernel),vg]
theorem GZ{n p:Int}:ar "asked" (.ref aa) (ar "hands" (.ref ha) (ar "place" (.int p) (ar "number" (.int n) [])))=dZ n p ha aa:=by
 repeat (first|rw[Cd]|rw[jz (by decide+kernel)])
 rfl
noncomputable def bP (ka ia sa:Q2) (k:Int) (ev:V):List (Str×V):=[("known",.ref ka),("inputs_left",.ref ia),("stack",.ref sa),("steps_done",.int k),("ending",ev)]
variable {ia sa:Q2}
section
variable {k:Int}{ev ew:V}
theorem pL:(bP ka ia sa k ev).lookup ("known":Str)=some (.ref ka):=kg
theorem DX:(bP ka ia sa k ev).lookup ("inputs_left":Str)=some (.ref ia):=by unfold bP;rw[dS (by decide+kernel)];exact kg
theorem hV:(bP ka ia sa k ev).lookup ("stack":Str)=some (.ref sa):=by unfold bP;rw[dS (by decide+kernel),dS (by decide+kernel)];exact kg
theorem IP:(bP ka ia sa k ev).lookup ("steps_done":Str)=some (.int k):=by unfold bP;rw[dS (by decide+kernel),dS (by decide+kernel),dS (by decide+kernel)];exact kg
theorem pQ:(bP ka ia sa k ev).lookup ("ending":Str)=some ev:=by unfold bP;rw[dS (by decide+kernel),dS (by decide+kernel),dS (by decide+kernel),dS (by decide+kernel)];exact kg
theorem dm {m:Str}(h: ~~~((m =="known" ||(m =="inputs_left" ||(m =="stack" ||(m =="steps_done" ||m =="ending"))))=false)):(bP ka ia sa k ev).lookup m=none:=by simp only[Bool.or_eq_false_iff]at h;obtain⟨h1,h2,h3,h4,h5⟩:=h;unfold bP;rw[dS h1,dS h2,dS h3,dS h4,dS h5];rfl
theorem IN:ar "steps_done" (.int j) (bP ka ia sa k ev)=bP ka ia sa j ev:=by unfold bP;rw[jz (by decide+kernel),jz (by decide+kernel),jz (by decide+kernel),vg]
theorem mG:ar "ending" ew (bP ka ia sa k ev)=bP ka ia sa k ew:=by unfold bP;rw[jz (by decide+kernel),jz (by decide+kernel),jz (by decide+kernel),jz (by decide+kernel),vg]
theorem GY:ar "ending" ev (ar "steps_done" (.int k) (ar "stack" (.ref sa) (ar "inputs_left" (.ref ia) (ar "known" (.ref ka) []))))=bP ka ia sa k ev:=by
 repeat (first|rw[Cd]|rw[jz (by decide+kernel)])
 rfl
end
def l_ (H:Hp):iD->V->Prop|none,v=>v=.non|some xs,v=>∃ T,v=.ref T/\H T=some (.tup xs)
variable {en:iD}
theorem l_.tups(t:ci H H')(h:l_ H en v):l_ H' en v:=by cases en with
 |none=>exact h|some xs=>obtain⟨T,e,z⟩:=h;exact⟨T,e,t _ _ z⟩
theorem l_.none_iff(h:l_ H en v):decide (v=V.non)=en.isNone:=by cases en with
 |none=>rw[show v=.non from h];rfl|some xs=>obtain⟨T,e,z⟩:=h;rw[e,vZ];rfl
structure bz (cC:Q2)(H:Hp)(ka:Q2)(ks:Rv)(cr:Int->Cr)(Qq:Rz):Prop where
 d:∃ kvs,H ka=some (.dK kvs)/\cD (ng cC H cr Qq) kvs ks
 rt:∀ m∈ks,(cr m).Rt
 has:∀ b∈Qq,∃ o,H b=some o
variable {Qq:Rz}
section
theorem bz.frame (A:bz cC H ka ks cr Qq)(tk:ci H H')(k:∀ b∈Qq,∀ o,H b=some o->H' b=some o)(k2:∀ kvs,H ka=some (.dK kvs)->H' ka=some (.dK kvs)):bz cC H' ka ks cr Qq where
 d:=by
  obtain⟨kvs,e,q⟩:=A.d;exact⟨kvs,k2 _ e,q.mono λm v ⟨p,f,e1,e2,e3⟩=>⟨p,f,e1,e2.frame tk λb hb o ho=>k b (e3 b hb) o ho,e3⟩⟩
 rt:=A.rt;has:=λb hb=>by obtain⟨o,e⟩:=A.has b hb;exact⟨o,k b hb o e⟩
theorem bz.upd{b:Q2}{u:HO}(A:bz cC H ka ks cr Qq)(hb:b∉Qq)(h:H b=some u)(n1:∀ xs,u≠.tup xs)(n2:∀ kvs,u≠.dK kvs):bz cC (L2.upd H b o) ka ks cr Qq:=A.frame (pR λxs z=>n1 xs (by rw[h]at z;exact OL z)) (λc hc o' ho=>by rw[aC (λz=>hb (by rw[<-z];exact hc))];exact ho) λkvs z=>by rw[aC (sT z h (λw=>n2 kvs w.symm))];exact z
end
abbrev Fa:=Q2×Q2×Q2
def gq (cF:Q2)(H:Hp):List Fm->List Fa->Prop|[],[]=>True|f::st,(p,ha,aa)::r=>(∃ dx,H p=some (.ins cF dx (dZ f.n f.p ha aa)))/\H ha=some (.lst (f.Qi.map V.int))/\H aa=some (.lst (f.asked.map V.int))/\gq cF H st r|_,_=>False
def cu (Qj:List Fa):Rz:=Qj.flatMap λt=>[t.1,t.2.1,t.2.2]
theorem fP (t:Fa)(Qj:List Fa):cu (t::Qj)=t.1::t.2.1::t.2.2::cu Qj:=by unfold cu;simp
variable {cF:Q2}
theorem gq.frame:∀{st:List Fm}{Qj:List Fa},(∀ b∈cu Qj,∀ o,H b=some o->H' b=some o)->gq cF H st Qj->gq cF H' st Qj|[],[],_,_=>trivial|f::st,(p,ha,aa)::r,k,h=>by obtain⟨⟨dx,h1⟩,h2,h3,h4⟩:=h;rw[fP]at k;exact⟨⟨dx,k _ (by simp) _ h1⟩,k _ (by simp) _ h2,k _ (by simp) _ h3,gq.frame (λb hb=>k b (by simp[hb])) h4⟩|[],_::_,_,h=>h.elim|_::_,[],_,h=>h.elim
theorem gq.len:∀{st:List Fm}{Qj:List Fa},gq cF H st Qj->st.length=Qj.length|[],[],_=>rfl|f::st,t::r,h=>by rw[OC,OC,gq.len h.2.2.2]|[],_::_,h=>h.elim|_::_,[],h=>h.elim
theorem gq.has:∀{st:List Fm}{Qj:List Fa},gq cF H st Qj->∀ b∈cu Qj,∃ o,H b=some o/\(∀ xs,o≠.tup xs)/\∀ kvs,o≠.dK kvs
 |[],[],_,b,hb=>by simp[cu]at hb|f::st,(p,ha,aa)::r,h,b,hb=>by
  obtain⟨⟨dx,h1⟩,h2,h3,h4⟩:=h;rw[fP]at hb;simp only[Oe]at hb;rcases hb with rfl|rfl|rfl|hb
  ·exact⟨_,h1,λ_ z=>(by cases z),λ_ z=>(by cases z)⟩
  ·exact⟨_,h2,λ_ z=>(by cases z),λ_ z=>(by cases z)⟩
  ·exact⟨_,h3,λ_ z=>(by cases z),λ_ z=>(by cases z)⟩
  ·exact gq.has h4 b hb|[],_::_,h,_,_=>h.elim|_::_,[],h,_,_=>h.elim
def aJ (r ia sa:Q2)(Qj:List Fa):Rz:=r::ia::sa::cu Qj
inductive sv (cR:Q2)(H:Hp)(r ka ia sa:Q2)(k:Int)(en:iD):Prop|mk (dx:Q2) (ev:V) (h:H r=some (.ins cR dx (bP ka ia sa k ev))) (e:l_ H en ev):sv cR H r ka ia sa k en
structure aA (cR cF cC:Q2)(H:Hp)(r ka ia sa:Q2)(ks:Rv)(cr:Int->Cr)(Qj:List Fa)(s:Rs)(Qq:Rz):Prop where
 ins:sv cR H r ka ia sa s.k s.en
 kn:bz cC H ka ks cr Qq
 inp:H ia=some (.lst (s.ins.map V.int))
 sta:H sa=some (.lst (Qj.reverse.map λt=>V.ref t.1))
 fr:gq cF H s.st Qj
 nd:(aJ r ia sa Qj).Nodup
 off:∀ b∈aJ r ia sa Qj,b∉Qq
variable {Qj:List Fa}
section
variable {cR r:Q2}
theorem aA.has (A:aA cR cF cC H r ka ia sa ks cr Qj s Qq):∀ b∈aJ r ia sa Qj,∃ o,H b=some o/\(∀ xs,o≠.tup xs)/\∀ kvs,o≠.dK kvs:=λb hb=>by
 unfold aJ at hb;simp only[Oe]at hb;rcases hb with rfl|rfl|rfl|hb
 ·obtain⟨dx,ev,e,_⟩:=A.ins;exact⟨_,e,λ_ z=>(by cases z),λ_ z=>(by cases z)⟩
 ·exact⟨_,A.inp,λ_ z=>(by cases z),λ_ z=>(by cases z)⟩
 ·exact⟨_,A.sta,λ_ z=>(by cases z),λ_ z=>(by cases z)⟩
 ·exact A.fr.has b hb
theorem aA.frame (A:aA cR cF cC H r ka ia sa ks cr Qj s Qq)(tk:ci H H')(k:∀ b,b∈aJ r ia sa Qj\/b∈Qq->∀ o,H b=some o->H' b=some o)(k2:∀ kvs,H ka=some (.dK kvs)->H' ka=some (.dK kvs)):aA cR cF cC H' r ka ia sa ks cr Qj s Qq where
 ins:=by obtain⟨dx,ev,e,z⟩:=A.ins;exact⟨dx,ev,k _ (.inl (by simp[aJ])) _ e,z.tups tk⟩
 kn:=A.kn.frame tk (λb hb=>k b (.inr hb)) k2;inp:=k _ (.inl (by simp[aJ])) _ A.inp;sta:=k _ (.inl (by simp[aJ])) _ A.sta;fr:=A.fr.frame λb hb=>k b (.inl (by simp[aJ,hb]));nd:=A.nd;off:=A.off
theorem aA.same (A:aA cR cF cC H r ka ia sa ks cr Qj s Qq)(e:ae H H'):aA cR cF cC H' r ka ia sa ks cr Qj s Qq:=A.frame e.tups (λb _ o ho=>e b o ho) λkvs z=>e _ _ z
theorem aA.ndr (A:aA cR cF cC H r ka ia sa ks cr Qj s Qq):r≠ia/\r≠sa/\r∉cu Qj/\ia≠sa/\ia∉cu Qj/\sa∉cu Qj/\(cu Qj).Nodup:=by have h:=A.nd;unfold aJ at h;simp only[OM,Oe,Po]at h;obtain⟨⟨a1,a2,a3⟩,⟨b1,b2⟩,c1,d1⟩:=h;exact⟨a1,a2,a3,b1,b2,c1,d1⟩
theorem aA.setR{k':Int}{ev ew:V}{en':iD}(A:aA cR cF cC H r ka ia sa ks cr Qj s Qq)(h:H r=some (.ins cR dx (bP ka ia sa s.k ev)))(he:l_ H en' ew):aA cR cF cC (upd H r (.ins cR dx (bP ka ia sa k' ew))) r ka ia sa ks cr Qj {s with k:=k',en:=en'} Qq where
 ins:=⟨dx,ew,aq,he.tups (pR λxs z=>by rw[h]at z;cases z)⟩;kn:=A.kn.upd (A.off r (by simp[aJ])) h (λ_ z=>by cases z) (λ_ z=>by cases z);inp:=by rw[aC A.ndr.1.symm];exact A.inp
 sta:=by rw[aC A.ndr.2.1.symm];exact A.sta
 fr:=A.fr.frame λb hb o ho=>by rw[aC (λz=>A.ndr.2.2.1 (by rw[<-z];exact hb))];exact ho
 nd:=A.nd;off:=A.off
variable {xs:Rv}
theorem aA.setIn(A:aA cR cF cC H r ka ia sa ks cr Qj s Qq):aA cR cF cC (upd H ia (.lst (xs.map V.int))) r ka ia sa ks cr Qj {s with ins:=xs} Qq where
 ins:=by obtain⟨dx,ev,e,z⟩:=A.ins;exact⟨dx,ev,by rw[aC A.ndr.1];exact e,z.tups (kM A.inp)⟩
 kn:=A.kn.upd (A.off ia (by simp[aJ])) A.inp (λ_ z=>by cases z) (λ_ z=>by cases z);inp:=aq;sta:=by rw[aC A.ndr.2.2.2.1.symm];exact A.sta
 fr:=A.fr.frame λb hb o ho=>by rw[aC (λz=>A.ndr.2.2.2.2.1 (by rw[<-z];exact hb))];exact ho
 nd:=A.nd;off:=A.off
variable {f:Fm}
theorem BW{t:Fa}(h:(cu (t::Qj)).Nodup):t.1≠t.2.1/\t.1≠t.2.2/\t.1∉cu Qj/\t.2.1≠t.2.2/\t.2.1∉cu Qj/\t.2.2∉cu Qj:=by rw[fP]at h;simp only[OM,Oe,Po]at h;obtain⟨⟨a1,a2,a3⟩,⟨b1,b2⟩,c1,d1⟩:=h;exact⟨a1,a2,a3,b1,b2,c1⟩
theorem aA.setP(A:aA cR cF cC H r ka ia sa ks cr ((p,ha,aa)::Qj) s Qq)(hs:s.st=f::st)(h:H p=some (.ins cF dx (dZ f.n f.p ha aa))):aA cR cF cC (upd H p (.ins cF dx (dZ f.n q ha aa))) r ka ia sa ks cr ((p,ha,aa)::Qj) {s with st:={f with p:=q}::st} Qq:=by
 obtain⟨r1,r2,r3,i1,i2,s1,fn⟩:=A.ndr;obtain⟨n1,n2,n3,n4,n5,n6⟩:=BW fn;rw[fP]at r3 i2 s1;simp only[Oe,Po]at r3 i2 s1;have fr:=A.fr;rw[hs]at fr;obtain⟨⟨dx',f1⟩,f2,f3,f4⟩:=fr;have nt:ci H (upd H p (.ins cF dx (dZ f.n q ha aa))):=pR λxs z=>by rw[h]at z;cases z
 refine⟨?_,A.kn.upd (A.off p (by simp[aJ,fP])) h (λ_ z=>by cases z) (λ_ z=>by cases z),?_,?_,⟨⟨dx,aq⟩,?_,?_,f4.frame λb hb o ho=>?_⟩,A.nd,A.off⟩
 ·obtain⟨dx',ev,e,z⟩:=A.ins;exact⟨dx',ev,by rw[aC r3.1];exact e,z.tups nt⟩
 ·rw[aC i2.1];exact A.inp
 ·rw[aC s1.1];exact A.sta
 ·rw[aC (R7 n1)];exact f2
 ·rw[aC (R7 n2)];exact f3
 ·rw[aC (λz=>n3 (by rw[<-z];exact hb))];exact ho
theorem aA.setH(A:aA cR cF cC H r ka ia sa ks cr ((p,ha,aa)::Qj) s Qq)(hs:s.st=f::st):aA cR cF cC (upd H ha (.lst (xs.map V.int))) r ka ia sa ks cr ((p,ha,aa)::Qj) {s with st:={f with Qi:=xs}::st} Qq:=by
 obtain⟨r1,r2,r3,i1,i2,s1,fn⟩:=A.ndr;obtain⟨n1,n2,n3,n4,n5,n6⟩:=BW fn;rw[fP]at r3 i2 s1;simp only[Oe,Po]at r3 i2 s1;have fr:=A.fr;rw[hs]at fr;obtain⟨⟨dx',f1⟩,f2,f3,f4⟩:=fr;have nt:ci H (upd H ha (.lst (xs.map V.int))):=kM f2;refine⟨?_,A.kn.upd (A.off ha (by simp[aJ,fP])) f2 (λ_ z=>by cases z) (λ_ z=>by cases z),?_,?_,⟨⟨dx',?_⟩,aq,?_,f4.frame λb hb o ho=>?_⟩,A.nd,A.off⟩
 ·obtain⟨dx',ev,e,z⟩:=A.ins;exact⟨dx',ev,by rw[aC r3.2.1];exact e,z.tups nt⟩
 ·rw[aC i2.2.1];exact A.inp
 ·rw[aC s1.2.1];exact A.sta
 ·rw[aC n1];exact f1
 ·rw[aC (R7 n4)];exact f3
 ·rw[aC (λz=>n5 (by rw[<-z];exact hb))];exact ho
theorem aA.pop {t:Fa}(A:aA cR cF cC H r ka ia sa ks cr (t::Qj) s Qq)(hs:s.st=f::st):aA cR cF cC (upd H sa (.lst (Qj.reverse.map λt=>V.ref t.1))) r ka ia sa ks cr Qj {s with st:=st} Qq:=by
 obtain⟨r1,r2,r3,i1,i2,s1,fn⟩:=A.ndr;have fr:=A.fr;rw[hs]at fr;obtain⟨p,ha,aa⟩:=t;obtain⟨⟨dx',f1⟩,f2,f3,f4⟩:=fr;rw[fP]at r3 i2 s1 fn;simp only[Oe,Po]at r3 i2 s1;refine⟨?_,A.kn.upd (A.off sa (by simp[aJ])) A.sta (λ_ z=>by cases z) (λ_ z=>by cases z),?_,aq,f4.frame λb hb o ho=>?_,?_,λb hb=>A.off b ?_⟩
 ·obtain⟨dx',ev,e,z⟩:=A.ins;exact⟨dx',ev,by rw[aC r2];exact e,z.tups (kM A.sta)⟩
 ·rw[aC i1];exact A.inp
 ·rw[aC (λz=>s1.2.2.2 (by rw[<-z];exact hb))];exact ho
 ·have:=A.nd;unfold aJ at this ⊢;rw[fP]at this;simp only[OM,Oe,Po]at this ⊢;exact⟨⟨this.1.1,this.1.2.1,this.1.2.2.2.2.2⟩,⟨this.2.1.1,this.2.1.2.2.2.2⟩,this.2.2.1.2.2.2,this.2.2.2.2.2.2⟩
 ·unfold aJ at hb ⊢;rw[fP];simp only[Oe]at hb ⊢;rcases hb with z|z|z|z
  ·exact .inl z
  ·exact .inr (.inl z)
  ·exact .inr (.inr (.inl z))
  ·exact .inr (.inr (.inr (.inr (.inr (.inr z)))))
theorem aA.push(A:aA cR cF cC H r ka ia sa ks cr Qj s Qq)(e:ae H H')(p0:H p=none)(h0:H ha=none)(a0:H aa=none)(n1:p≠ha)(n2:p≠aa)(n3:ha≠aa)(hk:∀ b∈Qq,∃ o,H b=some o)(h1:H' p=some (.ins cF dx (dZ f.n f.p ha aa)))(h2:H' ha=some (.lst (f.Qi.map V.int)))(h3:H' aa=some (.lst (f.asked.map V.int))):
  aA cR cF cC (upd H' sa (.lst ((Qj.reverse.map λt=>V.ref t.1)++[.ref p]))) r ka ia sa ks cr ((p,ha,aa)::Qj) {s with st:=f::s.st} Qq:=by
 have A':=A.same e;obtain⟨r1,r2,r3,i1,i2,s1,fn⟩:=A.ndr;have ow:∀ b∈aJ r ia sa Qj,b≠p/\b≠ha/\b≠aa:=λb hb=>by obtain⟨o,ho,_⟩:=A.has b hb;exact⟨cj ho p0,cj ho h0,cj ho a0⟩
 have os:=ow sa (by simp[aJ]);refine⟨?_,A'.kn.upd (A.off sa (by simp[aJ])) A'.sta (λ_ z=>by cases z) (λ_ z=>by cases z),?_,by rw[aq];simp,⟨⟨dx,?_⟩,?_,?_,A'.fr.frame λb hb o ho=>?_⟩,?_,λb hb=>?_⟩
 ·obtain⟨dx',ev,e,z⟩:=A'.ins;exact⟨dx',ev,by rw[aC r2];exact e,z.tups (kM A'.sta)⟩
 ·rw[aC i1];exact A'.inp
 ·rw[aC os.1.symm];exact h1
 ·rw[aC os.2.1.symm];exact h2
 ·rw[aC os.2.2.symm];exact h3
 ·rw[aC (λz=>s1 (by rw[<-z];exact hb))];exact ho
 ·have nd:=A.nd;have o1:=ow r (by simp[aJ]);have o2:=ow ia (by simp[aJ]);have of':∀ b∈cu Qj,b≠p/\b≠ha/\b≠aa:=λb hb=>ow b (by simp[aJ,hb]);unfold aJ at nd ⊢;rw[fP];simp only[OM,Oe,Po]at nd ⊢;exact⟨⟨nd.1.1,nd.1.2.1,o1.1,o1.2.1,o1.2.2,nd.1.2.2⟩,⟨nd.2.1.1,o2.1,o2.2.1,o2.2.2,nd.2.1.2⟩,⟨os.1,os.2.1,os.2.2,nd.2.2.1⟩,⟨n1,n2,λz=>(of' p z).1 rfl⟩,⟨n3,λz=>(of' ha z).2.1 rfl⟩,λz=>(of' aa z).2.2 rfl,nd.2.2.2⟩
 ·have kn:∀ b∈Qq,b≠p/\b≠ha/\b≠aa:=λb hb=>by obtain⟨o,ho⟩:=hk b hb;exact⟨cj ho p0,cj ho h0,cj ho a0⟩
  unfold aJ at hb;rw[fP]at hb;simp only[Oe]at hb;rcases hb with rfl|rfl|rfl|rfl|rfl|rfl|hb
  ·exact A.off b (by simp[aJ])
  ·exact A.off b (by simp[aJ])
  ·exact A.off b (by simp[aJ])
  ·exact λz=>(kn _ z).1 rfl
  ·exact λz=>(kn _ z).2.1 rfl
  ·exact λz=>(kn _ z).2.2 rfl
  ·exact A.off b (by simp[aJ,hb])
end
theorem GX{xs:List α}{v:α}:fg (xs++[v]) (-1)=some v:=by unfold fg gO;rw[Oh (by omega),Ol (by simp;omega),show((-1:Int)+((xs++[v]).length:Nat)).toNat=xs.length by simp;omega];simp
theorem ky{t:Fa}:fg ((t::Qj).reverse.map λt=>V.ref t.1) (-1)=some (.ref t.1):=by rw[List.reverse_cons,OF];exact GX
theorem vR{fs ns:Rv}(h:Sm (c::fs)):∀(i:Nat) (f n:Int),fs[i]?=some f->ns[i]?=some n->fY f n:=λi f n e _=>.inl (h f (Oo _ (cq e)))
theorem oz{f:Fm}(h:iP ks cr f):(cA f).length=8:=by unfold cA;simp[h.h4,h.a2]
theorem bz.craft(A:bz cC H ka ks cr Qq){m:Int}(hm:m∈ks):∃ kvs p f,H ka=some (.dK kvs)/\aG kvs (.inl m)=some (.ref p)/\dH cC H p (cr m) f:=by obtain⟨kvs,e,q⟩:=A.d;obtain⟨v,e1,p,f,rfl,e3,_⟩:=q.2.2 m hm;exact⟨kvs,p,f,e,e1,e3⟩
theorem bz.no(A:bz cC H ka ks cr Qq){m:Int}(hm:m∉ks):∃ kvs,H ka=some (.dK kvs)/\aG kvs (.inl m)=none:=by obtain⟨kvs,e,q⟩:=A.d;exact⟨kvs,e,q.no hm⟩
def jN (K:Fg)(H:Hp)(a:Q2)(ls:Rw):Prop:=∃ xs,H a=some (.lst xs)/\au K H (ls.map nums) xs
theorem jN.same{a:Q2}{ls:Rw}(e:ae H H')(h:jN K H a ls):jN K H' a ls:=by obtain⟨xs,h1,h2⟩:=h;exact⟨xs,e _ _ h1,au.same e _ h2⟩
theorem wM{ls:Rw}{f:Rz}(h:ai H (bo ls) v f):∃ a,v=.ref a/\jN K H a ls:=by unfold bo ai at h;obtain⟨a,xs,r,rfl,rfl,h1,h2⟩:=h;exact⟨a,rfl,xs,h1,aj.reps (K:=K) _ h2⟩
theorem dH.out{c:Cr}(h9:∀ d∈c.P9,eU d)(h:dH cC H p c fp):∃ dx y1 y2 b3 b4 Qy QI,H p=some (.ins cC dx (cU (.ref y1) (.ref y2) (.ref b3) (.ref b4)))/\jN K H y1 c.Qg/\jN K H y2 c.P7/\H b3=some (.lst Qy)/\kH H c.P9 Qy/\H b4=some (.lst QI)/\R2 (λls x=>∃ a,x=.ref a/\jN K H a ls) c.P_ QI:=by
 obtain⟨dx,w1,w2,w3,w4,f,rfl,hp,r⟩:=h;obtain⟨x1,x2,x3,x4,f1,f2,f3,f4,e,g1,g2,g3,g4⟩:=vQ r;cases e;obtain⟨y1,rfl,hy1⟩:=wM (K:=K) g1;obtain⟨y2,rfl,hy2⟩:=wM (K:=K) g2;obtain⟨b3,Qy,r3,rfl,h3,z3⟩:=ai.lso g3;obtain⟨b4,QI,r4,rfl,h4,z4⟩:=ai.lso g4;refine⟨dx,y1,y2,b3,b4,Qy,QI,hp,hy1,hy2,h3,⟨by simpa using z3.length,λi d x e1 e2=>?_⟩,h4,⟨by simpa using z4.length,λi ls x e1 e2=>?_⟩⟩
 ·obtain⟨f,hf⟩:=aj.item z3 i (cT d) x (by rw[aM,e1];rfl) e2;exact tK (tP (h9 d (cq e1))) hf
 ·obtain⟨f,hf⟩:=aj.item z4 i (bo ls) x (by rw[aM,e1];rfl) e2;exact wM hf
theorem Cr.Rt.sm {c:Cr}(h:c.Rt):(∀ l∈c.Qg,l.length=9/\Sm l)/\(∀ l∈c.P7,l.length=9/\Sm l)/\(∀ ls∈c.P_,∀ l∈ls,l.length=9/\Sm l):=by have r:dI c.Qg c.P7 c.P9 c.P_=true:=h.r;simp only[dI,iT,lH,kD,gy,Of,Oj,OT,OJ,OS,id_eq]at r;obtain⟨⟨⟨_,a1⟩,_,a2⟩,_,_,c2⟩:=r;exact⟨λl hl=>⟨h.nine.n9 l hl,lh (a1 l hl)⟩,λl hl=>⟨h.nine.l9 l hl,lh (a2 l hl)⟩,λls hls l hl=>⟨(h.nine.o9 ls hls).2 l hl,lh ((c2 ls hls).2 l hl)⟩⟩
def sj:Option Nat->V|some i=>.int (i:Int)|none=>.non
theorem Kx{ls:Rw}{P:Rv->Bool}(h:(ls.take i).findIdx? P=none)(e:ls[i]?=some l):ls.findIdx? P=if P l=true then some i else(ls.drop (i+1)).findIdx? P |>.map (·+(i+1)):=by
 obtain⟨hi,rfl⟩:=d7.mp e;have s:ls=ls.take i++ls[i]::ls.drop (i+1):=by rw[List.getElem_cons_drop,List.take_append_drop]
 have l':(ls.take i).length=i:=by rw[O0];omega
 conv=>lhs;rw[s]
 rw[List.findIdx?_append,h,List.findIdx?_cons];simp only[Option.none_or,l'];split
 ·simp
 ·simp only[Option.map_map];congr 1;funext x;simp;omega
variable {y:V}
theorem wq{g:Q2}(h:ao K H g [x,y]\/aB K H g [x,y])(q:Q x H):mO K (.ref g) (.int 0) H Q:=by
 rcases h with h|h
 ·exact bK h db q
 ·exact aP h db q
theorem wo{g:Q2}(h:ao K H g [x,y]\/aB K H g [x,y])(q:Q y H):mO K (.ref g) (.int 1) H Q:=by
 rcases h with h|h
 ·exact bK h (bi (j:=1) rfl) q
 ·exact aP h (bi (j:=1) rfl) q
end My
namespace L2
open PySem PySem.Spec PySem.Calls PyProof.Rows PySem.W
theorem rH {K:Fg}{σ:St}{H:Hp}{Q:VK}{T:String}{r:V->Ry->Hp->VK->Prop}{to:TE}(h:to σ H λx H1=>oO K T x H1/\r x [] H1 Q):qk K T r to σ H Q:=h
section
variable {X:Cx}{CX:ke}{C:Q2}{ps:List Str}{j k:Nat}{sp:Sp}{E:XK}{x m:Str}{o e:Expr}{es:List Expr}{ta te:TE}{t:TA}{p pos apos:Pos}
end
end L2
namespace My
open PySem L2 PyProof.Rows
def a_ (S:Rz)(H:Hp)(T:Rz)(H':Hp):Prop:=aX S H H'/\(∀ b∈T,b∈S\/H b=none)/\cE H H'
variable {S:Rz}{H:Hp}
theorem a_.refl:a_ S H S H:=⟨λ_ _ _ h=>h,λ_ h=>.inl h,λ_ h=>h⟩
variable {T:Rz}{H1:Hp}
theorem a_.trans{U:Rz}{H2:Hp}(a:a_ S H T H1)(b:a_ T H1 U H2):a_ S H U H2:=by
 have k:∀ c∈T,c∈S\/H c=none:=a.2.1;refine⟨λc o n e=>b.1 c o (λz=>?_) (a.1 c o n e),λc hc=>?_,λc hc=>a.2.2 c (b.2.2 c hc)⟩
 ·rcases k c z with w|w
  ·exact n w
  ·rw[w]at e;cases e
 ·rcases b.2.1 c hc with z|z
  ·exact k c z
  ·exact .inr (a.2.2 c z)
variable {H':Hp}
theorem a_.same(e:ae H H'):a_ S H S H':=⟨e.offA,λ_ h=>.inl h,e.fr⟩
theorem DF(e:aX S H H')(h:∀ b∈S,∃ o,H' b=some o):cE H H':=λb hb=>by cases eb:H b with
 |none=>rfl|some o=>
  by_cases w:b∈S
  ·obtain⟨u,hu⟩:=h b w;rw[hu]at hb;cases hb
  ·rw[e b o w eb]at hb;cases hb
variable {p:Q2}{o:HO}
theorem a_.upd(h:p∈S):a_ S H S (upd H p o):=⟨hX h,λ_ h=>.inl h,j0⟩
theorem a_.less(h:∀ b∈T,b∈S):a_ S H T H:=⟨λ_ _ _ h=>h,λb z=>.inl (h b z),λ_ h=>h⟩
variable {cR cF cC r ka ia sa:Q2}{ks:Rv}{cr:Int->Cr}{Qj:List Fa}{s:Rs}{Qq:Rz}
theorem a_.offR(e:aX [r] H H')(A:aA cR cF cC H' r ka ia sa ks cr Qj s Qq):a_ (aJ r ia sa Qj) H (aJ r ia sa Qj) H':=⟨λb o n=>e b o λz=>n (by rw[bn.mp z];simp[aJ]),λ_ h=>.inl h,DF e λb hb=>by
  rw[bn.mp hb];obtain⟨dx,ev,z,_⟩:=A.ins;exact⟨_,z⟩⟩
def o5 (cr:Int->Cr)(s:Rs)(f:Fm)(st:List Fm):Rs:=match cL (cr f.n).P7 (cA f)with
 |some i=>{s with en:=some (brk "leaves" f i)}|none=>match st with
  |[]=>{s with st:=[],en:=some (nj f)}|g::r=>{s with st:=gW cr g (f.Qi.getD 0 0) (f.Qi.getD 1 0)::r}
variable {st:List Fm}
theorem DE{f:Fm}(h:¬ f.p=((cr f.n).P9.length:Int)):bE cr f st=(f::st,iK cr f):=by cases st<;>(unfold bE;rw[Oh h])
theorem CV{f:Fm}(h:f.p=((cr f.n).P9.length:Int)):bE cr f st=match cL (cr f.n).P7 (cA f)with
  |some i=>(f::st,some (brk "leaves" f i))|none=>match st with
   |[]=>([],some (nj f))|g::r=>bE cr (gW cr g (f.Qi.getD 0 0) (f.Qi.getD 1 0)) r:=by cases st with
 |nil=>
  unfold bE;rw[Ol h];all_goals (cases cL (cr f.n).P7 (cA f)<;>rfl)|cons g r=>
  conv=>lhs;unfold bE
  rw[Ol h];all_goals (cases cL (cr f.n).P7 (cA f)<;>rfl)
theorem Wf.take{f g:Fm}{r:List Fm}{l0 l1:Int}(h:Wf ks cr (f::g::r)):Wf ks cr (gW cr g l0 l1::r):=⟨λk hk=>by
 rcases Oe.mp hk with rfl|hk
 ·exact wN (h.tail.1 g Oi) (h.2 g Oi)
 ·exact h.tail.1 k (Oo _ hk),λk hk=>h.tail.2 k hk⟩
def iG (ks:Rv)(cr:Int->Cr)(s0:Rs)(f0:Fm)(st0:List Fm)(s:Rs):Prop:=s.k=s0.k/\s.ins=s0.ins/\((s.en=none/\∃ f st,s.st=f::st/\Wf ks cr (f::st)/\bE cr f st=bE cr f0 st0)\/∃ e,s.en=some e/\(s.st,some e)=bE cr f0 st0)
def iy (s:Rs):Nat:=2*s.st.length+if s.en.isNone=true then 1 else 0
variable {s0:Rs}{f0:Fm}{st0:List Fm}
theorem iG.leave{f:Fm}(h:iG ks cr s0 f0 st0 s)(he:s.en=none)(hs:s.st=f::st)(hp:f.p=((cr f.n).P9.length:Int)):iG ks cr s0 f0 st0 (o5 cr s f st)/\iy (o5 cr s f st)<iy s:=by
 obtain⟨k1,k2,h|⟨e,he',_⟩⟩:=h
 ·obtain⟨_,f',st',e1,w,ec⟩:=h;rw[hs]at e1;injection e1 with e1 e2;subst e1;subst e2;rw[CV hp]at ec;obtain⟨sst,sins,sk,sen⟩:=s;dsimp only at hs he k1 k2;subst hs;subst he;unfold o5 iy;cases hb:cL (cr f.n).P7 (cA f)with
  |some i=>rw[hb]at ec;exact⟨⟨k1,k2,.inr ⟨_,rfl,ec⟩⟩,by simp⟩|none=>rw[hb]at ec;cases st with
   |nil=>exact⟨⟨k1,k2,.inr ⟨_,rfl,ec⟩⟩,by simp⟩|cons g r=>exact⟨⟨k1,k2,.inl ⟨rfl,_,r,rfl,w.take,ec⟩⟩,by simp⟩
 ·rw[he]at he';cases he'
theorem iG.stay{f:Fm}(h:iG ks cr s0 f0 st0 s)(he:s.en=none)(hs:s.st=f::st)(hp:¬ f.p=((cr f.n).P9.length:Int)):({s with en:=iK cr f}:Rs)=du cr s0 f0 st0:=by
 obtain⟨k1,k2,h|⟨e,he',_⟩⟩:=h
 ·obtain⟨_,f',st',e1,w,ec⟩:=h;rw[hs]at e1;injection e1 with e1 e2;subst e1;subst e2;rw[DE hp]at ec;unfold du;rw[<-ec,<-k1,<-k2,<-hs]
 ·rw[he]at he';cases he'
theorem iG.ended(h:iG ks cr s0 f0 st0 s)(he:¬ s.en=none):s=du cr s0 f0 st0:=by
 obtain⟨k1,k2,h|⟨e,he',ec⟩⟩:=h
 ·exact OE h.1 he
 ·unfold du;rw[<-ec,<-k1,<-k2,<-he']
theorem iG.top(h:iG ks cr s0 f0 st0 s)(he:s.en=none):∃ f st,s.st=f::st/\Wf ks cr (f::st):=by
 obtain⟨_,_,h|⟨e,he',_⟩⟩:=h
 ·obtain⟨_,f,st,e1,w,_⟩:=h;exact⟨f,st,e1,w⟩
 ·rw[he]at he';cases he'
variable {xs:Rv}
theorem oq{k:Int}(h0:0<=k)(h:k<(xs.length:Int)):fg (xs.map V.int) k=some (.int (xs.getD k.toNat 0)):=by
 have hk:k.toNat<xs.length:=by omega
 exact ml h0 (by rw[aM,Om hk,OD,Om hk];rfl)
variable {v:Int}
theorem wL{j:Nat}:(xs.map V.int).set j (.int v)=(xs.set j v).map V.int:=by rw[List.map_set]
theorem GW{t:Fa}:((t::Qj).reverse.map λt=>V.ref t.1).dropLast=Qj.reverse.map λt=>V.ref t.1:=by rw[List.reverse_cons,OF];exact List.dropLast_concat
theorem GV{t:Fa}:((t::Qj).reverse.map λt=>V.ref t.1)[((t::Qj).reverse.map λt=>V.ref t.1).length - 1]?=some (.ref t.1):=by rw[List.reverse_cons,OF];simp
theorem Rs.quiet(h:s.en=none):({s with en:=none}:Rs)=s:=by cases s;cases h;rfl
theorem IM{t:Fa}:∀ b∈aJ r ia sa Qj,b∈aJ r ia sa (t::Qj):=λb h=>by
 unfold aJ at h ⊢;rw[fP];simp only[Oe]at h ⊢;rcases h with z|z|z|z
 ·exact .inl z
 ·exact .inr (.inl z)
 ·exact .inr (.inr (.inl z))
 ·exact .inr (.inr (.inr (.inr (.inr (.inr z)))))
variable {ha aa:Q2}
theorem Bu:p∈aJ r ia sa ((p,ha,aa)::Qj):=by simp[aJ,fP]
theorem vf:ha∈aJ r ia sa ((p,ha,aa)::Qj):=by simp[aJ,fP]
theorem ve:sa∈aJ r ia sa Qj:=by simp[aJ]
theorem BF:ia∈aJ r ia sa Qj:=by simp[aJ]
theorem nJ:r∈aJ r ia sa Qj:=by simp[aJ]
def vd (cr:Int->Cr)(ks:Rv)(s:Rs)(f:Fm)(st:List Fm)(m a0 a1:Int):Rs:=if m∉ks then {s with en:=some [.str "lost"]}else if 20<=(f::st).length then {s with en:=some [.str "deep"]}else
   match cL (cr m).Qg (ij a0 a1)with
   |some i=>{s with en:=some (brk "needs" f i)}|none=>du cr s (eX m a0 a1) (f::st)
variable {g0 g1 t0 t1:Int}
theorem KD{f:Fm}{m:Int}:cJ cr ks s f st (.call m g0 g1 t0 t1)=vd cr ks s f st m (f.Qi.getD g0.toNat 0) (f.Qi.getD g1.toNat 0):=rfl
theorem a_.push{y:Q2}(e:ae H H1)(h1:H y=none)(h2:H ha=none)(h3:H aa=none):a_ (aJ r ia sa Qj) H (aJ r ia sa ((y,ha,aa)::Qj)) (L2.upd H1 sa o):=by
 refine⟨e.offA.trans (hX ve),λb hb=>?_,λb hb=>e.fr b (j0 b hb)⟩;unfold aJ at hb;rw[fP]at hb;simp only[Oe]at hb;rcases hb with rfl|rfl|rfl|rfl|rfl|rfl|hb
 ·exact .inl nJ
 ·exact .inl BF
 ·exact .inl ve
 ·exact .inr h1
 ·exact .inr h2
 ·exact .inr h3
 ·exact .inl (by simp[aJ,hb])
theorem tM:∀{f:Fm}{st:List Fm},(bE cr f st).1.length<=(f::st).length
 |f,[]=>by
  unfold bE;split
  ·split<;>simp
  ·simp|f,g::st=>by
  unfold bE;split
  ·split
   ·simp
   ·exact OI tM (by simp)
  ·simp
theorem Kw(h:s.st.length<=20):(eV cr ks s).st.length<=20:=by
 unfold eV;split
 ·exact h
 ·rename_i f st e;have cl:∀(t:Rs) (g:Fm),(du cr t g st).st.length<=20:=λt g=>by have:=tM (cr:=cr) (f:=g) (st:=st);rw[e,OC]at h;rw[OC]at this;exact OI this h
  split
  ·exact h
  ·rename_i d _;cases d with
   |set hd l=>exact cl _ _|part hd l b=>exact cl _ _|draw hd lo hi=>
    unfold cJ;dsimp only;split
    ·exact h
    ·split
     ·exact cl _ _
     ·exact h|turn l q=>exact cl _ _|hold l=>
    unfold cJ;dsimp only;split
    ·exact h
    ·exact cl _ _|call m g0 g1 t0 t1=>
    unfold cJ;dsimp only;split
    ·exact h
    ·split
     ·exact h
     ·rename_i l20;split
      ·exact h
      ·refine OI tM ?_;simp only[OC]at l20 ⊢;omega
variable {d:Dd}
theorem DD{f:Fm}(hst:s.st=f::st)(hd:fz (cr f.n) f.p=some d):eV cr ks s=cJ cr ks {s with k:=s.k+1,en:=s.en} f st d:=by obtain⟨a,b,c,e⟩:=s;dsimp only at hst;subst hst;unfold eV;dsimp only;rw[hd]
theorem GU:decide (("part":Str)="set")=false:=by decide+kernel
theorem CD:decide (("draw":Str)="set")=false/\decide (("draw":Str)="part")=false:=by decide+kernel
theorem wn:decide (("turn":Str)="set")=false/\decide (("turn":Str)="part")=false/\decide (("turn":Str)="draw")=false:=by decide+kernel
theorem tD:decide (("hold":Str)="set")=false/\decide (("hold":Str)="part")=false/\decide (("hold":Str)="draw")=false/\decide (("hold":Str)="turn")=false:=by decide+kernel
theorem pz:decide (("call":Str)="set")=false/\decide (("call":Str)="part")=false/\decide (("call":Str)="draw")=false/\decide (("call":Str)="turn")=false/\decide (("call":Str)="hold")=false:=by decide+kernel
def oZ (H:Hp)(en:iD)(v:V):Prop:=∃ T,v=.ref T/\H T=some (.tup (en.getD [.str "cut"]))
variable {c:Cr}
theorem Cr.Rt.zero(h:c.Rt):(∀ l∈c.P7,cO [1,2,3,4] l=true)/\(∀ ls∈c.P_,∀ l∈ls,cO [7,8] l=true):=by have r:dI c.Qg c.P7 c.P9 c.P_=true:=h.r;simp only[dI,iT,lH,kD,gy,Of,Oj,OT,OJ,OS,id_eq]at r;obtain⟨⟨⟨_,a1⟩,_,a2⟩,_,_,c2⟩:=r;exact⟨λl hl=>a2 l hl,λls hls l hl=>(c2 ls hls).2 l hl⟩
variable {da ra sk:Q2}{lfp:Rz}
section
variable {ins:Rv}{f:Fm}
end
def vc:V->Bool|.int _=>true|.str _=>true|_=>false
def vD:V->D|.int i=>.int i|.str s=>.str s|_=>.non
def eP (en:iD):Prop:=∀ e,en=some e->∃ s xs,e=.str s::xs/\s≠"cut"/\e.all vc=true/\e.length<=5
theorem eP.none:eP none:=λe z=>by cases z
variable {w:Str}{i:Nat}
theorem pP{f:Fm}:eP (some (brk w f i)):=λe z=>by cases z;exact⟨_,_,rfl,by decide+kernel,rfl,by show 5<=5;omega⟩
theorem KC {f:Fm}:eP (some (nj f)):=λe z=>by cases z;exact⟨_,_,rfl,by decide+kernel,rfl,by show 3<=5;omega⟩
theorem Ju:eP (some [.str "dry"]):=λe z=>by cases z;exact⟨_,_,rfl,by decide+kernel,rfl,by show 1<=5;omega⟩
theorem LP:eP (some [.str "stray"]):=λe z=>by cases z;exact⟨_,_,rfl,by decide+kernel,rfl,by show 1<=5;omega⟩
theorem KB:eP (some [.str "lost"]):=λe z=>by cases z;exact⟨_,_,rfl,by decide+kernel,rfl,by show 1<=5;omega⟩
theorem Lb:eP (some [.str "deep"]):=λe z=>by cases z;exact⟨_,_,rfl,by decide+kernel,rfl,by show 1<=5;omega⟩
theorem EF{f:Fm}:eP (iK cr f):=by unfold iK;cases cL ((cr f.n).P_.getD f.p.toNat []) (cA f)with
 |none=>exact eP.none|some i=>exact pP
theorem lK:∀{f:Fm}{st:List Fm},eP (bE cr f st).2
 |f,[]=>by
  unfold bE;split
  ·split
   ·exact pP
   ·exact KC
  ·exact EF|f,g::st=>by
  unfold bE;split
  ·split
   ·exact pP
   ·exact lK
  ·exact EF
theorem Jt(h:eP s.en):eP (eV cr ks s).en:=by
 unfold eV;split
 ·exact h
 ·split
  ·exact h
  ·rename_i d _;cases d with
   |set hd l=>exact lK|part hd l b=>exact lK|draw hd lo hi=>
    unfold cJ;dsimp only;split
    ·exact Ju
    ·split
     ·exact lK
     ·exact LP|turn l q=>exact lK|hold l=>
    unfold cJ;dsimp only;split
    ·exact pP
    ·exact lK|call m g0 g1 t0 t1=>
    unfold cJ;dsimp only;split
    ·exact KB
    ·split
     ·exact Lb
     ·split
      ·exact pP
      ·exact lK
theorem DW:∀(n:Nat) {s:Rs},eP s.en->eP (de cr ks n s).en
 |0,s,h=>h|n+1,s,h=>by
  unfold de;split
  ·exact DW n (Jt h)
  ·exact h
def oU (en:iD):D:=.tup ((en.getD [.str "cut"]).map vD)
variable {K:Fg}
theorem DV:∀{xs:Ry},xs.all vc=true->au K H (xs.map vD) xs|[],_=>by unfold au;rfl|x::xs,h=>by rw[O_,Of]at h;rw[bX];unfold au;refine⟨x,xs,rfl,?_,DV h.2⟩;cases x<;>first|(unfold vD al;rfl)|(cases h.1)
variable {en:iD}
theorem eP.flat(h:eP en):(en.getD [.str "cut"]).all vc=true/\(en.getD [.str "cut"]).length<=5:=by cases en with
 |none=>exact⟨rfl,by show 1<=5;omega⟩|some e=>obtain⟨s,xs,e1,_,e3,e4⟩:=h e rfl;exact⟨e3,e4⟩
theorem oZ.rep{v:V}(h:oZ H en v)(k:eP en):al K H (oU en) v:=by obtain⟨T,rfl,hT⟩:=h;unfold oU al;exact⟨T,_,rfl,aB.of hT,DV k.flat.1⟩
theorem IL(k:eP en):dg (oU en)<=60:=by
 have:∀ xs:Ry,df (xs.map vD)<=1:=λxs=>by induction xs with
  |nil=>unfold Sa df;omega|cons x xs ih=>
   rw[bX];unfold df;have:dg (vD x)<=1:=by cases x<;>(unfold vD dg;omega)
   omega
 unfold oU dg;have:=this (en.getD [.str "cut"]);omega
theorem Cr.Rt.setDeed(r:c.Rt)(hd:bI (c.P9.length:Int) d=true)(h9:eU d):({c with P9:=c.P9.set i d}:Cr).Rt:=by
 refine⟨⟨r.nine.n9,r.nine.l9,λe he=>?_,r.nine.o9,r.nine.n,r.nine.l,by show(c.P9.set i d).length<=100;rw[ON];exact r.nine.d,r.nine.o⟩,?_⟩
 ·rcases R8 he with z|z
  ·exact r.nine.d9 e z
  ·rw[z];exact h9
 ·have rr:dI c.Qg c.P7 c.P9 c.P_=true:=r.r;show dI c.Qg c.P7 (c.P9.set i d) c.P_=true;unfold dI lH kD at rr ⊢;simp only[ON,Of,OT,OJ,OS,id_eq]at rr ⊢;refine⟨rr.1,⟨rr.2.1.1,λe he=>?_⟩,rr.2.2⟩;rcases R8 he with z|z
  ·exact rr.2.1.2 e z
  ·rw[z];exact hd
section
variable {H0:Hp}
theorem aA.ntup (A:aA cR cF cC H r ka ia sa ks cr Qj s Qq)(o:aX (aJ r ia sa Qj) H H'):ci H H':=λb xs e=>o b _ (λz=>by obtain⟨u,e',n1,_⟩:=A.has b z;rw[e]at e';cases e';exact n1 xs rfl) e
end
variable {xs:Ry}{a:Q2}
theorem DC{g:TG}{tb:TS}{D:bG}{σ:L2.St}(Pv:Nat->L2.St->Hp->Prop)(h0:Pv 0 σ H)(hl:∀ i σ H,i<=xs.length->Pv i σ H->ao K H a xs)(hs:∀ i x T σ H,xs[i]?=some x->Pv i σ H->H T=none->g (.ref T) σ (upd H T (.tup [.int i,x])) λσ2 H2=>tb {D with nx:=Pv (i+1),ct:=Pv (i+1),bk:=D.nx} σ2 H2)(hd:∀ σ H,Pv xs.length σ H->D.nx σ H):oV (sI K a) g tb D σ H:=by
 nomatch λi m σ H=>m=xs.length - i/\i<=xs.length/\Pv i σ H,⟨xs.length,by simp,O2 _,h0⟩;rintro i m σ H ⟨rfl,hi,p⟩;have q:=hl i σ H hi p;by_cases hlt:i<xs.length
 ·refine .inr ⟨⟨xs,xs[i],q,by simp[hlt]⟩,Pv (i+1),λσ' H' p'=>⟨xs.length - (i+1),by omega,rfl,hlt,p'⟩,λx H' y=>?_⟩;obtain⟨T,nT,rfl,y⟩:=y;have:=y xs xs[i] q (by simp);subst this;exact hs i _ T σ _ (by simp) p nT
 ·have e:i=xs.length:=by omega
  subst e;exact .inl ⟨⟨xs,q,On _⟩,hd σ H p⟩
section
variable {nn:Rv}{fasR fasR' cu fasL':List Fa}{fa:Q2}{fv:Ry}{sR sR' sL sL':Rs}
end
variable {pa:Q2}
section
variable {b3:Q2}{v1 v2 v4:V}{Qy:Ry}{f1 f2 f3 f4:Rz}
end
variable {n:Int}
section
variable {pl T:Q2}{u:V}{r:Ry}
end
def FH (l:Rv):Prop:=l.length=9/\cO [1,2,3,4,7,8] l=true
def FJ (l:Rv):Prop:=l.length=9/\cO [1,2,3,4] l=true
theorem Cr.Rt.lines(h:c.Rt):(∀ l∈c.Qg,FH l)/\∀ l∈c.P7,FJ l:=by have r:dI c.Qg c.P7 c.P9 c.P_=true:=h.r;simp only[dI,iT,gy,Of,Oj,OT,OJ,OS,id_eq]at r;exact⟨λl hl=>⟨h.nine.n9 l hl,r.1.1.2 l hl⟩,λl hl=>⟨h.nine.l9 l hl,r.1.2.2 l hl⟩⟩
theorem Cr.Rt.oath(h:c.Rt){nds lvs:Rw}(h1:nds.length<=2)(h2:∀ l∈nds,FH l)(h3:lvs.length<=2)(h4:∀ l∈lvs,FJ l):({c with Qg:=nds,P7:=lvs}:Cr).Rt:=by refine⟨⟨λl hl=>(h2 l hl).1,λl hl=>(h4 l hl).1,h.nine.d9,h.nine.o9,by show nds.length<=100;omega,by show lvs.length<=100;omega,h.nine.d,h.nine.o⟩,?_⟩;have r:dI c.Qg c.P7 c.P9 c.P_=true:=h.r;show dI nds lvs c.P9 c.P_=true;unfold dI at r ⊢;rw[Of]at r ⊢;refine⟨?_,r.2⟩;simp only[iT,gy,Of,Oj,OT,OJ,OS,id_eq];exact⟨⟨by omega,λl hl=>(h2 l hl).2⟩,by omega,λl hl=>(h4 l hl).2⟩
theorem IK{cH:Q2}{h la va ma:Q2}{vs:Rv}{fp:Rz}{kvs:List (bj×V)}(A:cc cH cC H h la va ks cr vs fp)(hm:H ma=some (.dK kvs))(n1:ma≠la)(n2:ma≠va)(o:aX [ma] H H'):cc cH cC H' h la va ks cr vs fp:=A.frame (λb xs e=>o b _ (λz=>by rw[bn.mp z,hm]at e;cases e) e) λb hb u e=>o b u (λz=>by
  have z:=bn.mp z;simp only[Oe]at hb;rcases hb with w|w|w|w
  ·obtain⟨dx,e'⟩:=A.ins;rw[<-w,z,hm]at e';cases e'
  ·exact n1 (z.symm.trans w)
  ·exact n2 (z.symm.trans w)
  ·obtain⟨o',e',nd⟩:=A.has b w;rw[z,hm]at e';cases e';exact nd _ rfl) e
theorem BE:∀(i k:Nat) (ns:Rv),bY (RB i 0++1::RB k 0) ns=ns.getD i 0|0,k,[]=>rfl|0,k,n::ns=>by show 1*n+bY (RB k 0) ns=n;rw[ud,Int.one_mul,Int.add_zero]|i+1,k,[]=>rfl|i+1,k,n::ns=>by show 0*n+bY (RB i 0++1::RB k 0) ns=ns.getD i 0;rw[BE,Int.zero_mul,Int.zero_add]
theorem GI:∀ i:Nat,i<8->aD (i:Int)=0::(RB i 0++1::RB (7 - i) 0):=by decide+kernel
variable {ns:Rv}
theorem lO(hi:i<8)(hl:ns.length=8):aU (aD (i:Int)) ns=ns.getD i 0:=by rw[GI i hi];show 0+bY _ ns=_;rw[Int.zero_add];exact BE _ _ _
def j9 (ch:Nat->Option Rv)(ns:Rv):Rv:=(RD 8).map λi=>((ch i).map λl=>aU l ns).getD (ns.getD i 0)
variable {ch:Nat->Option Rv}
theorem mC{x:Rv}(hl:ns.length=8)(h9:∀ i l,ch i=some l->l.length=9):aU (ck x (bN ch)) ns=aU x (j9 ch ns):=by
 rw[ET ns λl hl'=>?_]
 ·congr 1;unfold bN j9;rw[OZ];refine Sd λi hi=>?_;have hi:=List.mem_range.mp hi;show aU ((ch i).getD (aD (0+(i:Int)))) ns=_;cases ch i with
  |none=>rw[Int.zero_add];exact lO hi hl|some l=>rfl
 ·obtain⟨i,_,rfl⟩:=bU.mp hl';cases e:ch i with
  |none=>exact bO _|some l=>exact h9 i l e
variable {l:Rv}
theorem u_{h:Int}(h9:l.length=9):∀ i m,cV h l i=some m->m.length=9:=λi m e=>by
 unfold cV at e;split at e
 ·cases e;exact h9
 ·cases e
theorem uZ {h0 h1:Int}{l0 l1:Rv}(h9:l0.length=9)(k9:l1.length=9):∀ i m,cz h0 l0 h1 l1 i=some m->m.length=9:=λi m e=>by
 unfold cz at e;split at e
 ·cases e;exact k9
 ·split at e
  ·cases e;exact h9
  ·cases e
theorem rY:∀ i m,fW i=some m->m.length=9:=λi m e=>by unfold fW at e;repeat (first|(split at e)|(cases e;exact bO _)|(cases e;exact fF _)|cases e)
def v8 (h a:Rv)(x y:Int):Rv:=h++a++[x,y]
variable {y x k0 k1 a0 a1 u:Int}{a h:Rv}
section
theorem iF (h4:h.length=4)(a2:a.length=2):(v8 h a x y).length=8:=by unfold v8;simp[h4,a2]
theorem gP(h4:h.length=4)(a2:a.length=2):aU (aD 6) (v8 h a x y)=x:=by have:=lO (i:=6) (by decide) (iF (x:=x) (y:=y) h4 a2);rw[show(((6:Nat):Int))=6 from rfl]at this;rw[this];obtain⟨h0,h1,h2,h3,rfl⟩:=eB h4;match a,a2 with|[a0,a1],_=>rfl
theorem zS(h4:h.length=4)(a2:a.length=2):aU (aD 7) (v8 h a x y)=y:=by have:=lO (i:=7) (by decide) (iF (x:=x) (y:=y) h4 a2);rw[show(((7:Nat):Int))=7 from rfl]at this;rw[this];obtain⟨h0,h1,h2,h3,rfl⟩:=eB h4;match a,a2 with|[a0,a1],_=>rfl
theorem CC{ms:Rv}(l:ms.length=8)(h:∀ i,i<8->((ch i).map λl=>aU l ns).getD (ns.getD i 0)=ms.getD i 0):j9 ch ns=ms:=by
 refine List.ext_getElem? λi=>?_;unfold j9;rw[aM];by_cases hi:i<8
 ·rw[O1 hi];show some (((ch i).map λl=>aU l ns).getD (ns.getD i 0))=_;rw[h i hi,OD,Om (by omega)];rfl
 ·rw[Sk (by rw[Pj];omega),Sk (by omega)];rfl
variable {w:Int}
theorem wK{k:Nat}(hk:k<ns.length):(ns.set k w).getD i 0=if k=i then w else ns.getD i 0:=by
 rw[OD,List.getElem?_set];by_cases e:k=i
 ·rw[Ol e,Ol e,Ol hk];rfl
 ·rw[Oh e,Oh e,<-OD]
theorem vE{k:Nat}(hk:k<h.length):(v8 h a x y).set k w=v8 (h.set k w) a x y:=by unfold v8;rw[OW,List.set_append_left _ _ hk,OW]
theorem rS {k:Int}(k0:0<=k)(k3:k<=3)(h4:h.length=4)(a2:a.length=2):j9 (cV k l) (v8 h a x y)=v8 (h.set k.toNat (aU l (v8 h a x y))) a x y:=by
 have q:=iF (x:=x) (y:=y) h4 a2;rw[<-vE (by omega)];refine CC (by rw[ON];exact q) λi hi=>?_;rw[wK (by omega)];unfold cV;by_cases e:k=0+(i:Int)
 ·rw[Ol e,Ol (by omega)];rfl
 ·rw[Oh e,Oh (by omega)];rfl
theorem j_(b0:0<=k0)(b0':k0<=3)(b1:0<=k1)(b1':k1<=3)(h4:h.length=4)(a2:a.length=2):j9 (cz k0 (aD 6) k1 (aD 7)) (v8 h a x y)=v8 ((h.set k0.toNat x).set k1.toNat y) a x y:=by
 have q:=iF (x:=x) (y:=y) h4 a2;rw[<-vE (by rw[ON];omega),<-vE (by omega)];refine CC (by rw[ON,ON];exact q) λi hi=>?_;rw[wK (by rw[ON];omega),wK (by omega)];unfold cz;by_cases e:k1=0+(i:Int)
 ·rw[Ol e,Ol (by omega)];exact zS h4 a2
 ·rw[Oh e,Oh (show ¬k1.toNat=i by omega)];by_cases e':k0=0+(i:Int)
  ·rw[Ol e',Ol (by omega)];exact gP h4 a2
  ·rw[Oh e',Oh (by omega)];rfl
theorem rR(b0:0<=k0)(b0':k0<=3)(b1:0<=k1)(b1':k1<=3)(h4:h.length=4)(a2:a.length=2):j9 (cz 4 (aD k0) 5 (aD k1)) (v8 h a x y)=v8 h [h.getD k0.toNat 0,h.getD k1.toNat 0] x y:=by
 have e0:aU (aD k0) (v8 h a x y)=h.getD k0.toNat 0:=by have:=lO (i:=k0.toNat) (by omega) (iF (x:=x) (y:=y) h4 a2);rw[show((k0.toNat:Nat):Int)=k0 by omega]at this;rw[this];unfold v8;rw[OW,OD,Pp (by omega),<-OD]
 have e1:aU (aD k1) (v8 h a x y)=h.getD k1.toNat 0:=by have:=lO (i:=k1.toNat) (by omega) (iF (x:=x) (y:=y) h4 a2);rw[show((k1.toNat:Nat):Int)=k1 by omega]at this;rw[this];unfold v8;rw[OW,OD,Pp (by omega),<-OD]
 generalize h.getD k0.toNat 0=w0 at*;generalize h.getD k1.toNat 0=w1 at*;obtain⟨h0,h1,h2,h3,rfl⟩:=eB h4;match a,a2 with
 |[a0,a1],_=>simp[j9,cz,Pi,e0,e1];simp[v8]
theorem N9(h4:h.length=4):j9 fW (v8 h [a0,a1] x y)=v8 [a0,a1,0,0] [a0,a1] x y:=by obtain⟨h0,h1,h2,h3,rfl⟩:=eB h4;have e4:aU (aD 4) (v8 [h0,h1,h2,h3] [a0,a1] x y)=a0:=lO (i:=4) (by decide) rfl;have e5:aU (aD 5) (v8 [h0,h1,h2,h3] [a0,a1] x y)=a1:=lO (i:=5) (by decide) rfl;have e0:aU (kL 0) (v8 [h0,h1,h2,h3] [a0,a1] x y)=0:=xR _;simp[j9,fW,Pi,e4,e5,e0];simp[v8]
theorem CA(h9:l.length=9)(hz:cO [7,8] l=true)(h4:h.length=4)(a2:a.length=2):aU l (v8 h a x y)=aU l (v8 h a u v):=by obtain⟨c,f0,f1,f2,f3,f4,f5,f6,f7,rfl⟩:=nine h9;obtain⟨h0,h1,h2,h3,rfl⟩:=eB h4;match a,a2 with
 |[a0,a1],_=>simp[cO]at hz;obtain⟨_,rfl,rfl⟩:=hz;simp[aU,bY,v8]
variable {g:Rv}
theorem DU(h9:l.length=9)(hz:cO [1,2,3,4] l=true)(h4:h.length=4)(g4:g.length=4):aU l (v8 h a x y)=aU l (v8 g a x y):=by obtain⟨c,f0,f1,f2,f3,f4,f5,f6,f7,rfl⟩:=nine h9;obtain⟨h0,h1,h2,h3,rfl⟩:=eB h4;obtain⟨g0,g1,g2,g3,rfl⟩:=eB g4;simp[cO]at hz;obtain⟨_,rfl,rfl,rfl,rfl⟩:=hz;simp[aU,bY,v8]
theorem DT(h9:l.length=9)(hz:cO [1,2,3,4,7,8] l=true)(h4:h.length=4)(g4:g.length=4)(a2:a.length=2):aU l (v8 h a x y)=aU l (v8 g a u v):=by obtain⟨c,f0,f1,f2,f3,f4,f5,f6,f7,rfl⟩:=nine h9;obtain⟨h0,h1,h2,h3,rfl⟩:=eB h4;obtain⟨g0,g1,g2,g3,rfl⟩:=eB g4;match a,a2 with
 |[a0,a1],_=>simp[cO]at hz;obtain⟨_,rfl,rfl,rfl,rfl,rfl,rfl⟩:=hz;simp[aU,bY,v8]
theorem wm (h4:h.length=4)(a2:a.length=2):aU (ck l gc) (v8 h a x y)=aU l (h++a++h.take 2):=by rw[ET _ (λm hm=>by obtain⟨i,_,rfl⟩:=bU.mp hm;exact bO _)];obtain⟨h0,h1,h2,h3,rfl⟩:=eB h4;match a,a2 with
 |[a0,a1],_=>congr 1;have e:∀ i:Nat,i<8->aU (aD (i:Int)) (v8 [h0,h1,h2,h3] [a0,a1] x y)=(v8 [h0,h1,h2,h3] [a0,a1] x y).getD i 0:=λi hi=>lO hi rfl;have e0:=e 0 (by decide);have e1:=e 1 (by decide);have e2:=e 2 (by decide);have e3:=e 3 (by decide);have e4:=e 4 (by decide);have e5:=e 5 (by decide);unfold gc pj;simp[v8]at*;exact⟨e0,e1,e2,e3,e4,e5,e0,e1⟩
end
def sK (cr:Int->Cr)(f:Fm):Prop:=∀ l∈aH (cr f.n).P7 (cr f.n).P_ f.p,∀ x y,0<=aU l (v8 f.Qi f.asked x y)
theorem Cz(rt:c.Rt){p:Int}(hl:l∈aH c.P7 c.P_ p)(h4:h.length=4)(a2:a.length=2):aU l (v8 h a x y)=aU l (v8 h a u v):=by
 unfold aH at hl;split at hl
 ·obtain⟨m,_,rfl⟩:=bU.mp hl;rw[wm h4 a2,wm h4 a2]
 ·have:∃ ls∈c.P_,l∈ls:=by rw[OD]at hl;cases e:c.P_[p.toNat]? with
   |none=>rw[e]at hl;cases hl|some ls=>rw[e]at hl;exact⟨ls,cq e,hl⟩
  obtain⟨ls,m,hl⟩:=this;exact CA ((rt.nine.o9 ls m).2 l hl) (rt.zero.2 ls m l hl) h4 a2
theorem uD{ls:Rw}(h:∀ l∈ls,0<=aU l ns):cL ls ns=none:=by unfold cL;rw[List.findIdx?_eq_none_iff];intro l hl;have:=h l hl;exact Oq (by omega)
theorem wJ (f:Fm)(h4:f.Qi.length=4):cA f=v8 f.Qi f.asked (f.Qi.getD 0 0) (f.Qi.getD 1 0):=by unfold cA v8;obtain⟨n,p,Qi,asked⟩:=f;match Qi,h4 with|[h0,h1,h2,h3],_=>rfl
structure lU (G:Int->Prop)(ks:Rv)(cr:Int->Cr):Prop where
 ks:∀ m,G m->m∈ks
 rt:∀ m,G m->(cr m).Rt
 fd:∀ m,G m->∀ g∈(cr m).gs cr,ic g
 cl:∀ m,G m->∀ k∈cK (cr m).P9,G k
variable {g:Du}{G:Int->Prop}
theorem lU.snd(h:lU G ks cr){m:Int}(hm:G m)(hg:g∈(cr m).gs cr)(hh:∀ l∈g.2,0<=aU l ns):0<=aU g.1 ns:=by obtain⟨_,gf⟩:=(h.rt m hm).gs (cr:=cr) λk hk=>h.rt k (h.cl m hm k hk);obtain⟨g9,_,h9⟩:=gf g hg;have:=h.fd m hm g hg;unfold ic at this;cases e:gm g.1 g.2 with
 |none=>rw[e]at this;cases this|some r=>obtain⟨w,ws⟩:=r;exact Lz ns g9 h9 (KL e).2.2 hh
theorem ED{lv:Rw}{nt:Rx}{o:cB}:∀{ds:List Dd}{i q:Nat},ds[i]?=some d->g∈dX (aH lv nt ((q+i:Nat):Int)) (aH lv nt (((q+i:Nat):Int)+1)) (aH lv nt) o d->g∈iS lv nt o ds q|[],i,q,e,_=>by simp at e|c::ds,0,q,e,h=>by simp at e;subst e;unfold iS;exact OK _ h|c::ds,i+1,q,e,h=>by unfold iS;refine Oz _ (ED (i:=i) (by simpa using e) ?_);rw[show q+1+i=q+(i+1)by omega];exact h
theorem kF{p:Int}(p0:0<=p)(e:fz c p=some d)(h:g∈dX (aH c.P7 c.P_ p) (aH c.P7 c.P_ (p+1)) (aH c.P7 c.P_) (tp cr) d):g∈c.gs cr:=by unfold Cr.gs oa;refine Oz _ (ED (i:=p.toNat) (q:=0) e ?_);rw[Nat.zero_add,show((p.toNat:Nat):Int)=p by omega];exact h
theorem IJ(h:l∈aH c.P7 c.P_ 0):(ck l (bN fW),c.Qg)∈c.gs cr:=by unfold Cr.gs oa tq;exact OK _ (bU.mpr ⟨l,h,rfl⟩)
theorem DS(h:lU G ks cr){m:Int}(hm:G m)(hn:∀ l∈(cr m).Qg,0<=aU l (ij a0 a1)):sK cr (eX m a0 a1):=λl hl x y=>by
 have rt:=h.rt m hm;have:=h.snd hm (IJ (cr:=cr) hl) (ns:=v8 [0,0,0,0] [a0,a1] x y) λk hk=>by have hk:k∈(cr m).Qg:=hk;obtain⟨k9,kz⟩:=(show(∀ l∈(cr m).Qg,l.length=9/\cO [1,2,3,4,7,8] l=true)from by have r:dI (cr m).Qg (cr m).P7 (cr m).P9 (cr m).P_=true:=rt.r;simp only[dI,iT,gy,Of,Oj,OT,OJ,OS,id_eq]at r;exact λl hl=>⟨rt.nine.n9 l hl,r.1.1.2 l hl⟩) k hk;rw[DT (g:=[0,0,0,0]) (u:=0) (v:=0) k9 kz rfl rfl rfl];exact hn k hk
 rw[mC rfl rY,N9 rfl]at this;exact this
theorem oY{ls:Rw}{fs:Rv}(h9:∀ l∈ls,l.length=9):aU (fD ls fs) ns=bY fs (ls.map λl=>aU l ns):=by unfold fD;rw[ur ns ls fs _ (by simp) h9,xS,Int.zero_add]
theorem kS:aU (kL n) ns=n:=xR _
def Lk (cr:Int->Cr)(f g:Fm):Prop:=∃ m g0 g1 t0 t1,fz (cr g.n) g.p=some (.call m g0 g1 t0 t1)/\f.n=m/\f.asked=[g.Qi.getD g0.toNat 0,g.Qi.getD g1.toNat 0]
def BD (cr:Int->Cr)(n0:Int)(a:Rv)(f:Fm):List Fm->Prop|[]=>f.n=n0/\f.asked=a|g::_=>Lk cr f g
def kY (G:Int->Prop)(cr:Int->Cr)(n0:Int)(a:Rv):List Fm->Prop|[]=>True|f::st=>G f.n/\sK cr f/\f.Qi.length=4/\f.asked.length=2/\0<=f.p/\f.p<=((cr f.n).P9.length:Int)/\BD cr n0 a f st/\kY G cr n0 a st
def gV (cr:Int->Cr)(n0:Int)(a:Rv)(en:iD):Prop:=en=none\/en=some [.str "dry"]\/en=some [.str "stray"]\/en=some [.str "deep"]\/∃ r0 r1,en=some [.str "done",.int r0,.int r1]/\∀ l∈(cr n0).P7,0<=aU l (v8 [0,0,0,0] a r0 r1)
section
variable {n0:Int}
theorem II(h:lU G ks cr){g:Fm}{m r0 r1:Int}(hg:G g.n)(D:sK cr g)(g4:g.Qi.length=4)(g2:g.asked.length=2)(p0:0<=g.p)(e:fz (cr g.n) g.p=some (.call m g0 g1 t0 t1))(hm:G m)(hl:∀ l∈(cr m).P7,0<=aU l (v8 [0,0,0,0] [g.Qi.getD g0.toNat 0,g.Qi.getD g1.toNat 0] r0 r1)):sK cr (gW cr g r0 r1):=λl hdl x y=>by
 have rt:=h.rt g.n hg;have rm:=h.rt m hm;have ok:=rt.parts.2.2.2.2.2 _ (cq (show(cr g.n).P9[g.p.toNat]?=some _ from e));obtain⟨b0,b1,c0,c1,_⟩:=uf ok;have hdl:l∈aH (cr g.n).P7 (cr g.n).P_ (g.p+1):=hdl;have:=h.snd hg (kF (cr:=cr) p0 e (g:=(ck l (bN (cz t0 (aD 6) t1 (aD 7))),aH (cr g.n).P7 (cr g.n).P_ g.p++(cr m).P7.map λx=>ck x (bN (cz 4 (aD g0) 5 (aD g1))))) (by unfold dX;exact Oz _ (bU.mpr ⟨l,hdl,rfl⟩))) (ns:=v8 g.Qi g.asked r0 r1) λk hk=>by
  rcases bW.mp (show k∈aH (cr g.n).P7 (cr g.n).P_ g.p++(cr m).P7.map λx=>ck x (bN (cz 4 (aD g0) 5 (aD g1)))from hk)with z|z
  ·exact D k z _ _
  ·obtain⟨q,hq,rfl⟩:=bU.mp z;rw[mC (iF g4 g2) (uZ (bO _) (bO _)),rR b0.1 b0.2 b1.1 b1.2 g4 g2,DU (g:=[0,0,0,0]) (rm.nine.l9 q hq) (rm.zero.1 q hq) g4 rfl];exact hl q hq
 rw[mC (iF g4 g2) (uZ (bO _) (bO _)),j_ c0.1 c0.2 c1.1 c1.2 g4 g2]at this;have et:(gW cr g r0 r1).Qi=(g.Qi.set t0.toNat r0).set t1.toNat r1:=by unfold gW;rw[e];rfl
 rw[et,show(gW cr g r0 r1).asked=g.asked from rfl];rw[Cz rt hdl (by rw[ON,ON];exact g4) g2 (u:=r0) (v:=r1)];exact this
theorem ue (h:lU G ks cr):∀{st:List Fm}{f:Fm},kY G cr n0 a (f::st)->gV cr n0 a (bE cr f st).2/\((bE cr f st).2=none->kY G cr n0 a (bE cr f st).1)
 |st,f,⟨hG,D,h4,a2,p0,pn,B,S⟩=>by
  have rt:=h.rt f.n hG;have ln:=rt.parts.2.2.2.1;by_cases hp:f.p=((cr f.n).P9.length:Int)
  ·have lv:∀ l∈(cr f.n).P7,0<=aU l (cA f):=λl hl=>by have:=D (ck l gc) (by unfold aH;rw[Ol (by rw[hp,ln])];exact bU.mpr ⟨l,hl,rfl⟩) 0 0;rw[wm h4 a2]at this;exact this
   have lz:∀ l∈(cr f.n).P7,0<=aU l (v8 [0,0,0,0] f.asked (f.Qi.getD 0 0) (f.Qi.getD 1 0)):=λl hl=>by rw[DU (g:=f.Qi) (rt.nine.l9 l hl) (rt.zero.1 l hl) rfl h4,<-wJ f h4];exact lv l hl
   rw[CV hp,uD lv];match st,B,S with
   |[],B,_=>refine⟨.inr (.inr (.inr (.inr ⟨_,_,rfl,?_⟩))),λz=>by cases z⟩;rw[<-B.1,<-B.2];exact lz|g::st,B,S=>
    obtain⟨m,g0,g1,t0,t1,e,rfl,ea⟩:=B;obtain⟨gG,gD,g4,g2,gp0,gpn,gB,gS⟩:=S;rw[ea]at lz;have lt:g.p.toNat<(cr g.n).P9.length:=(d7.mp (show(cr g.n).P9[g.p.toNat]?=some _ from e)).1;refine ue h (f:=gW cr g (f.Qi.getD 0 0) (f.Qi.getD 1 0)) ⟨gG,II h gG gD g4 g2 gp0 e hG lz,?_,g2,?_,?_,?_,gS⟩
    ·unfold gW;rw[ON,ON];exact g4
    ·show 0<=g.p+1;omega
    ·show g.p+1<=((cr g.n).P9.length:Int);omega
    ·match st,gB with|[],gB=>exact gB|k::_,gB=>exact gB
  ·rw[DE hp];have nn:iK cr f=none:=by
    unfold iK;rw[uD λl hl=>?_]
    ·rfl
    ·have:=D l (by unfold aH;rw[Oh (by rw[ln];exact hp)];exact hl) (f.Qi.getD 0 0) (f.Qi.getD 1 0);rw[wJ f h4];exact this
   exact⟨.inl nn,λ_=>⟨hG,D,h4,a2,p0,pn,B,S⟩⟩
 termination_by st=>st.length
theorem La(h:lU G ks cr){f:Fm}(S:kY G cr n0 a (f::st))(hst:s.st=f::st)(e:fz (cr f.n) f.p=some d):gV cr n0 a (cJ cr ks s f st d).en/\((cJ cr ks s f st d).en=none->kY G cr n0 a (cJ cr ks s f st d).st):=by
 obtain⟨hG,D,h4,a2,p0,pn,B,S'⟩:=S;have rt:=h.rt f.n hG;have hdm:=cq (show(cr f.n).P9[f.p.toNat]?=some d from e);have ok:=rt.parts.2.2.2.2.2 _ hdm;have l9:=rt.nine.d9 _ hdm;have lt:f.p.toNat<(cr f.n).P9.length:=(d7.mp (show(cr f.n).P9[f.p.toNat]?=some d from e)).1;have Bh:∀{g:Fm},g.n=f.n->g.asked=f.asked->BD cr n0 a g st:=λ{g} e1 e2=>by match st,B with
  |[],B=>exact⟨e1.trans B.1,e2.trans B.2⟩|k::_,B=>obtain⟨m,g0,g1,t0,t1,q1,q2,q3⟩:=B;exact⟨m,g0,g1,t0,t1,q1,e1.trans q2,e2.trans q3⟩
 have go:∀{g:Fm}{s':Rs},g.n=f.n->g.asked=f.asked->g.Qi.length=4->0<=g.p->g.p<=((cr f.n).P9.length:Int)->sK cr g->gV cr n0 a (du cr s' g st).en/\((du cr s' g st).en=none->kY G cr n0 a (du cr s' g st).st):=λ{g s'} e1 e2 g4 gp gn gD=>ue h ⟨by rw[e1];exact hG,gD,g4,by rw[e2];exact a2,gp,by rw[e1];exact gn,Bh e1 e2,S'⟩
 have put:∀{k x:Int}{s':Rs}{N:Rw},0<=k->k<=3->(∀ l∈aH (cr f.n).P7 (cr f.n).P_ (f.p+1),∃ y,0<=aU l (v8 (f.Qi.set k.toNat x) f.asked y y))->gV cr n0 a (e_ cr s' f st k x).en/\((e_ cr s' f st k x).en=none->kY G cr n0 a (e_ cr s' f st k x).st):=λ{k x s' N} k0 k3 hh=>by refine go (g:={f with Qi:=f.Qi.set k.toNat x,p:=f.p+1}) rfl rfl (by show(f.Qi.set k.toNat x).length=4;rw[ON];exact h4) (by show 0<=f.p+1;omega) (by show f.p+1<=((cr f.n).P9.length:Int);omega) λl hl u v=>?_;have hl:l∈aH (cr f.n).P7 (cr f.n).P_ (f.p+1):=hl;obtain⟨y,hy⟩:=hh l hl;show 0<=aU l (v8 (f.Qi.set k.toNat x) f.asked u v);rw[Cz rt hl (by rw[ON];exact h4) a2 (u:=y) (v:=y)];exact hy
 have nums:∀{l:Rv}{x y:Int},l.length=9->cO [7,8] l=true->aU l (v8 f.Qi f.asked x y)=aU l (cA f):=λ{l x y} q1 q2=>by rw[wJ f h4];exact CA q1 q2 h4 a2
 cases d with
 |set k l=>simp only[bI,b5,cb,Of,Oj]at ok;obtain⟨⟨k0,k3⟩,lz⟩:=ok;refine put (N:=[]) k0 k3 λx hx=>⟨0,?_⟩;have:=h.snd hG (kF (cr:=cr) p0 e (g:=(ck x (bN (cV k l)),aH (cr f.n).P7 (cr f.n).P_ f.p)) (by unfold dX;exact bU.mpr ⟨x,hx,rfl⟩)) (ns:=v8 f.Qi f.asked 0 0) λq hq=>D q hq 0 0;rw[mC (iF h4 a2) (u_ l9),rS k0 k3 h4 a2,nums l9 lz]at this;exact this|part k l b=>
  simp only[bI,b5,cb,Of,Oj]at ok;obtain⟨⟨k0,k3⟩,lz,b1,_⟩:=ok;have q1:=Int.emod_add_mul_ediv (aU l (cA f)) b;have q2:=OU (aU l (cA f)) (show b≠0 by omega);have q3:=OQ (aU l (cA f)) (show 0<b by omega);rw[show cJ cr ks s f st (.part k l b)=e_ cr s f st k (aU l (cA f)/b)from rfl];generalize hq:aU l (cA f)/b=q at*;refine put (N:=[]) k0 k3 λx hx=>⟨q,?_⟩;have:=h.snd hG (kF (cr:=cr) p0 e (g:=(ck x (bN (cV k (aD 6))),aH (cr f.n).P7 (cr f.n).P_ f.p++[jZ l b,bx l b])) (by unfold dX;exact bU.mpr ⟨x,hx,rfl⟩)) (ns:=v8 f.Qi f.asked q q) λz hz=>by
   rcases bW.mp (show z∈aH (cr f.n).P7 (cr f.n).P_ f.p++[jZ l b,bx l b]from hz)with w|w
   ·exact D z w _ _
   ·push_cast at w;rcases w with rfl|rfl
    ·unfold jZ;rw[oY (λm hm=>by simp at hm;rcases hm with rfl|rfl;exact l9;exact bO _)];simp only[bX,O6,bY,gP h4 a2,nums l9 lz];rw[Int.neg_mul];omega
    ·unfold bx;rw[oY (λm hm=>by simp at hm;rcases hm with rfl|rfl|rfl;exact bO _;exact fF _;exact l9)];simp only[bX,O6,bY,gP h4 a2,kS,nums l9 lz];omega
  rw[mC (iF h4 a2) (u_ (bO _)),rS k0 k3 h4 a2,gP h4 a2]at this;exact this|draw k lo hi=>simp only[bI,b5,cb,Of,Oj]at ok;obtain⟨⟨k0,k3⟩,_⟩:=ok;cases hin:s.ins with
  |nil=>
   have:cJ cr ks s f st (.draw k lo hi)={s with en:=some [.str "dry"]}:=by unfold cJ;rw[hin]
   rw[this];exact⟨.inr (.inl rfl),λz=>by cases z⟩|cons q r=>
   by_cases hq:lo<=q/\q<=hi
   ·have:cJ cr ks s f st (.draw k lo hi)=e_ cr {s with ins:=r} f st k q:=by unfold cJ;rw[hin];dsimp only;rw[Ol hq]
    rw[this];refine put (N:=[]) k0 k3 λx hx=>⟨q,?_⟩;have:=h.snd hG (kF (cr:=cr) p0 e (g:=(ck x (bN (cV k (aD 6))),aH (cr f.n).P7 (cr f.n).P_ f.p++[jQ lo,jM hi])) (by unfold dX;exact bU.mpr ⟨x,hx,rfl⟩)) (ns:=v8 f.Qi f.asked q q) λz hz=>by
     rcases bW.mp (show z∈aH (cr f.n).P7 (cr f.n).P_ f.p++[jQ lo,jM hi]from hz)with w|w
     ·exact D z w _ _
     ·push_cast at w;rcases w with rfl|rfl
      ·unfold jQ;rw[oY (λm hm=>by simp at hm;rcases hm with rfl|rfl;exact bO _;exact fF _)];simp only[bX,O6,bY,gP h4 a2,kS];omega
      ·unfold jM;rw[oY (λm hm=>by simp at hm;rcases hm with rfl|rfl;exact fF _;exact bO _)];simp only[bX,O6,bY,gP h4 a2,kS];omega
    rw[mC (iF h4 a2) (u_ (bO _)),rS k0 k3 h4 a2,gP h4 a2]at this;exact this
   ·have:cJ cr ks s f st (.draw k lo hi)={s with ins:=r,en:=some [.str "stray"]}:=by unfold cJ;rw[hin];dsimp only;rw[Oh hq]
    rw[this];exact⟨.inr (.inr (.inl rfl)),λz=>by cases z⟩
 |turn l q=>
  simp only[bI,cb,Of,Oj]at ok;obtain⟨lz,q0,qn⟩:=ok;have e0:cJ cr ks s f st (.turn l q)=du cr s {f with p:=if 0<=aU l (cA f)then q else f.p+1} st:=rfl;by_cases hw:0<=aU l (cA f)
  ·rw[Ol hw]at e0;rw[e0];refine go (g:={f with p:=q}) rfl rfl h4 q0 qn λx hx u v=>?_;have hx:x∈aH (cr f.n).P7 (cr f.n).P_ q:=hx;exact h.snd hG (kF (cr:=cr) p0 e (g:=(x,aH (cr f.n).P7 (cr f.n).P_ f.p++[l])) (by unfold dX;exact OK _ (bU.mpr ⟨x,hx,rfl⟩))) (ns:=v8 f.Qi f.asked u v) λz hz=>by
    rcases bW.mp (show z∈aH (cr f.n).P7 (cr f.n).P_ f.p++[l]from hz)with w|w
    ·exact D z w _ _
    ·rw[bn.mp w,nums l9 lz];exact hw
  ·rw[Oh hw]at e0;rw[e0];refine go (g:={f with p:=f.p+1}) rfl rfl h4 (by show 0<=f.p+1;omega) (by show f.p+1<=((cr f.n).P9.length:Int);omega) λx hx u v=>?_;have hx:x∈aH (cr f.n).P7 (cr f.n).P_ (f.p+1):=hx;exact h.snd hG (kF (cr:=cr) p0 e (g:=(x,aH (cr f.n).P7 (cr f.n).P_ f.p++[jG l])) (by unfold dX;exact Oz _ (bU.mpr ⟨x,hx,rfl⟩))) (ns:=v8 f.Qi f.asked u v) λz hz=>by
    rcases bW.mp (show z∈aH (cr f.n).P7 (cr f.n).P_ f.p++[jG l]from hz)with w|w
    ·exact D z w _ _
    ·rw[bn.mp w];unfold jG;rw[oY (λm hm=>by simp at hm;rcases hm with rfl|rfl;exact l9;exact fF _)];simp only[bX,O6,bY,kS,nums l9 lz];omega|hold l=>
  simp only[bI]at ok;have hw:0<=aU l (cA f):=by have:=h.snd hG (kF (cr:=cr) p0 e (g:=(l,aH (cr f.n).P7 (cr f.n).P_ f.p)) (by unfold dX;exact OK _ (bn.mpr rfl))) (ns:=v8 f.Qi f.asked 0 0) λz hz=>D z hz 0 0;rw[nums l9 ok]at this;exact this
  have er:cJ cr ks s f st (.hold l)=du cr s {f with p:=f.p+1} st:=by
   have fb:cL [l] (cA f)=none:=uD λm hm=>by rw[bn.mp hm];exact hw
   simp only[cJ,fb]
  rw[er];refine go (g:={f with p:=f.p+1}) rfl rfl h4 (by show 0<=f.p+1;omega) (by show f.p+1<=((cr f.n).P9.length:Int);omega) λx hx u v=>?_;have hx:x∈aH (cr f.n).P7 (cr f.n).P_ (f.p+1):=hx;exact h.snd hG (kF (cr:=cr) p0 e (g:=(x,aH (cr f.n).P7 (cr f.n).P_ f.p++[l])) (by unfold dX;exact Oz _ (bU.mpr ⟨x,hx,rfl⟩))) (ns:=v8 f.Qi f.asked u v) λz hz=>by
   rcases bW.mp (show z∈aH (cr f.n).P7 (cr f.n).P_ f.p++[l]from hz)with w|w
   ·exact D z w _ _
   ·rw[bn.mp w,nums l9 ok];exact hw|call m g0 g1 t0 t1=>
  obtain⟨b0,b1,c0,c1,_⟩:=uf ok;have hm:G m:=h.cl f.n hG m (by unfold cK;exact OY.mpr ⟨_,hdm,rfl⟩);have mk:=h.ks m hm;have rm:=h.rt m hm;have nd:∀ l∈(cr m).Qg,0<=aU l (ij (f.Qi.getD g0.toNat 0) (f.Qi.getD g1.toNat 0)):=λl hl=>by have:=h.snd hG (kF (cr:=cr) p0 e (g:=(ck l (bN (cz 4 (aD g0) 5 (aD g1))),aH (cr f.n).P7 (cr f.n).P_ f.p)) (by unfold dX;exact OK _ (bU.mpr ⟨l,hl,rfl⟩))) (ns:=v8 f.Qi f.asked 0 0) λz hz=>D z hz 0 0;rw[mC (iF h4 a2) (uZ (bO _) (bO _)),rR b0.1 b0.2 b1.1 b1.2 h4 a2]at this;have r:dI (cr m).Qg (cr m).P7 (cr m).P9 (cr m).P_=true:=rm.r;simp only[dI,iT,gy,Of,Oj,OT,OJ,OS,id_eq]at r;rw[DT (g:=[0,0,0,0]) (u:=0) (v:=0) (rm.nine.n9 l hl) (r.1.1.2 l hl) h4 rfl rfl]at this;exact this
  by_cases h20:20<=(f::st).length
  ·have er:cJ cr ks s f st (.call m g0 g1 t0 t1)={s with en:=some [.str "deep"]}:=by simp only[cJ];rw[Oh (λz=>z mk),Ol h20]
   rw[er];exact⟨.inr (.inr (.inr (.inl rfl))),λz=>by cases z⟩
  ·have er:cJ cr ks s f st (.call m g0 g1 t0 t1)=du cr s (eX m (f.Qi.getD g0.toNat 0) (f.Qi.getD g1.toNat 0)) (f::st):=by simp only[cJ];rw[Oh (λz=>z mk),Oh h20,uD nd]
   rw[er];exact ue h ⟨hm,DS h hm nd,rfl,rfl,by show(0:Int)<=0;omega,by show(0:Int)<=_;omega,⟨m,g0,g1,t0,t1,e,rfl,rfl⟩,hG,D,h4,a2,p0,pn,B,S'⟩
theorem tL (h:lU G ks cr):∀(k:Nat) {s:Rs},gV cr n0 a s.en->(s.en=none->kY G cr n0 a s.st)->gV cr n0 a (de cr ks k s).en/\((de cr ks k s).en=none->kY G cr n0 a (de cr ks k s).st)
 |0,s,he,hs=>⟨he,hs⟩|k+1,s,he,hs=>by
  by_cases z:s.en=none
  ·rw[show de cr ks (k+1) s=de cr ks k (eV cr ks s)from by show(if s.en=none then _ else _)=_;rw[Ol z]];have S:=hs z;cases hst:s.st with
   |nil=>
    have:eV cr ks s=s:=by unfold eV;rw[hst]
    rw[this];exact tL h k he hs|cons f st=>rw[hst]at S;cases hd:fz (cr f.n) f.p with
    |none=>
     have:eV cr ks s=s:=by unfold eV;rw[hst];dsimp only;rw[hd]
     rw[this];exact tL h k he hs|some d=>rw[DD hst hd];obtain⟨e1,e2⟩:=La (s:={s with k:=s.k+1,en:=s.en}) h S hst hd;exact tL h k e1 e2
  ·rw[show de cr ks (k+1) s=s from by show(if s.en=none then _ else _)=_;rw[Oh z]];exact⟨he,hs⟩
end
inductive fj (cr:Int->Cr)(ks:Rv)(f:Fm):Str->Nat->Prop|P7 {i:Nat}:f.p=((cr f.n).P9.length:Int)->i<(cr f.n).P7.length->fj cr ks f "leaves" i|P_ {i:Nat}:f.p<((cr f.n).P9.length:Int)->i<((cr f.n).P_.getD f.p.toNat []).length->fj cr ks f "notes" i|hold {l:Rv}:fz (cr f.n) f.p=some (.hold l)->fj cr ks f "hold" 0|Qg {m g0 g1 t0 t1:Int}{i:Nat}:fz (cr f.n) f.p=some (.call m g0 g1 t0 t1)->m∈ks->i<(cr m).Qg.length->fj cr ks f "needs" i
def eO (cr:Int->Cr)(ks:Rv)(st:List Fm)(en:iD):Prop:=∀ e,en=some e->(∃ f r w i,st=f::r/\e=brk w f i/\fj cr ks f w i)\/∃ x xs,e=.str x::xs/\x≠("broken":Str)
theorem pY{ls:Rw}(h:cL ls ns=some i):i<ls.length:=by unfold cL at h;exact(List.findIdx?_eq_some_iff_getElem.mp h).1
section
theorem eO.word{x:Str}(h:x≠("broken":Str)):eO cr ks st (some (.str x::xs)):=λe z=>by cases z;exact .inr ⟨x,xs,rfl,h⟩
variable {r:List Fm}
theorem eO.at{f:Fm}(h:fj cr ks f w i):eO cr ks (f::r) (some (brk w f i)):=λe z=>by cases z;exact .inl ⟨f,r,w,i,rfl,rfl,h⟩
theorem DR{f:Fm}(w:iP ks cr f)(hp:¬ f.p=((cr f.n).P9.length:Int)):eO cr ks (f::r) (iK cr f):=λe he=>by unfold iK at he;obtain⟨i,hi,rfl⟩:=bV.mp he;exact .inl ⟨f,r,_,i,rfl,rfl,.P_ (by have:=w.pn;omega) (pY hi)⟩
theorem lJ:∀{f:Fm}{st:List Fm},Wf ks cr (f::st)->eO cr ks (bE cr f st).1 (bE cr f st).2
 |f,[],h=>by
  unfold bE;split
  ·rename_i hp;split
   ·rename_i i hb;exact .at (.P7 hp (pY hb))
   ·exact .word (by decide)
  ·rename_i hp;exact DR (h.1 f Oi) hp|f,g::st,h=>by
  unfold bE;split
  ·rename_i hp;split
   ·rename_i i hb;exact .at (.P7 hp (pY hb))
   ·refine lJ ⟨λk hk=>?_,λk hk=>h.tail.2 k hk⟩;rcases Oe.mp hk with rfl|hk
    ·exact wN (h.tail.1 g Oi) (h.2 g Oi)
    ·exact h.tail.1 k (Oo _ hk)
  ·rename_i hp;exact DR (h.1 f Oi) hp
theorem Js(hrt:∀ m∈ks,(cr m).Rt)(h:iB ks cr s)(he:s.en=none):eO cr ks (eV cr ks s).st (eV cr ks s).en:=by
 obtain⟨f,st,e,hp⟩:=h.on he;have hw:=h.w;rw[e]at hw;have wf:=hw.1 f Oi;have hlt:f.p.toNat<(cr f.n).P9.length:=by have:=wf.p0;omega
 have ok:=(hrt f.n wf.m).parts.2.2.2.2.2;have hd:fz (cr f.n) f.p=some (cr f.n).P9[f.p.toNat]:=Om hlt;have hok:=ok _ (OO hlt);unfold eV;rw[e];dsimp only;rw[hd];dsimp only;generalize (cr f.n).P9[f.p.toNat]=d at*;have up:∀ x,x.length=4->iP ks cr {f with Qi:=x,p:=f.p+1}:=λx z=>⟨wf.m,by have:=wf.p0;show 0<=f.p+1;omega,by show f.p+1<=((cr f.n).P9.length:Int);omega,z,wf.a2⟩;cases d with
 |set hd l=>exact lJ (hw.top (up _ (by simp[wf.h4])))|part hd l b=>exact lJ (hw.top (up _ (by simp[wf.h4])))|draw hd lo hi=>
  unfold cJ;dsimp only;split
  ·exact .word (by decide)
  ·split
   ·exact lJ (hw.top (up _ (by simp[wf.h4])))
   ·exact .word (by decide)|turn l q=>
  simp only[bI,cb,Of,Oj]at hok;refine lJ (hw.top ⟨wf.m,?_,?_,wf.h4,wf.a2⟩)
  ·dsimp only;have:=wf.p0;split<;>omega
  ·dsimp only;split<;>omega|hold l=>
  unfold cJ;dsimp only;split
  ·rename_i i hb;have:i=0:=by have:=pY hb;simp at this;omega
   subst this;exact .at (.hold hd)
  ·exact lJ (hw.top (up f.Qi wf.h4))|call m g0 g1 t0 t1=>
  unfold cJ;dsimp only;split
  ·exact .word (by decide)
  ·rename_i mk;have mk':m∈ks:=Pg λz=>mk z;split
   ·exact .word (by decide)
   ·split
    ·rename_i i hb;exact .at (.Qg hd mk' (pY hb))
    ·refine lJ ⟨λk hk=>?_,λk hk=>?_⟩
     ·rcases Oe.mp hk with rfl|hk
      ·exact⟨mk',by show(0:Int)<=0;omega,by show(0:Int)<=_;omega,rfl,rfl⟩
      ·exact hw.1 k hk
     ·rcases Oe.mp (show k∈f::st from hk)with rfl|hk
      ·exact⟨m,g0,g1,t0,t1,hd⟩
      ·exact hw.2 k hk
theorem Cy (hrt:∀ m∈ks,(cr m).Rt):∀(n:Nat) {s:Rs},iB ks cr s->eO cr ks s.st s.en->eO cr ks (de cr ks n s).st (de cr ks n s).en
 |0,s,_,b=>b|n+1,s,h,b=>by
  unfold de;split
  ·rename_i he;exact Cy hrt n (DG hrt h he) (Js hrt h he)
  ·exact b
end
def ii (K:Fg)(H:Hp)(pa:Q2)(c:Cr):Prop:=∃ x1 x2 b3 b4 Qy QI,H pa=some (.lst [x1,x2,.ref b3,.ref b4])/\al K H (bo c.Qg) x1/\al K H (bo c.P7) x2/\H b3=some (.lst Qy)/\kH H c.P9 Qy/\H b4=some (.lst QI)/\R2 (λls x=>al K H (bo ls) x) c.P_ QI
theorem ii.same(s:ae H H')(h:ii K H pa c):ii K H' pa c:=by obtain⟨x1,x2,b3,b4,Qy,QI,h1,r1,r2,e3,d3,e4,n4⟩:=h;exact⟨x1,x2,b3,b4,Qy,QI,s _ _ h1,al.same s _ r1,al.same s _ r2,s _ _ e3,R2.mono d3 λ_ _ z=>z.sq s.sq,s _ _ e4,R2.mono n4 λ_ _ z=>al.same s _ z⟩
theorem ii.nod(e:fG H H')(h:ii K H pa c):ii K H' pa c:=by obtain⟨x1,x2,b3,b4,Qy,QI,h1,r1,r2,e3,d3,e4,n4⟩:=h;exact⟨x1,x2,b3,b4,Qy,QI,e _ _ h1 (λ_ z=>by cases z),al.sq e.sq _ r1,al.sq e.sq _ r2,e _ _ e3 (λ_ z=>by cases z),R2.mono d3 λ_ _ z=>z.sq e.sq,e _ _ e4 (λ_ z=>by cases z),R2.mono n4 λ_ _ z=>al.sq e.sq _ z⟩
theorem GT {ys:Ry}{y:V}:bM (ys++[y]) (some (-1)) none=[y]:=by
 have e:(-1+((ys.length:Int)+1)).toNat=ys.length:=by omega
 unfold bM HT.sIx;simp[e]
theorem xj{ls:Rw}{x:V}(h:al K H (bo ls) x):∃ b xs,x=.ref b/\ao K H b xs/\xs.length=ls.length:=by unfold bo al at h;obtain⟨b,xs,e,h1,h2⟩:=h;exact⟨b,xs,e,h1,by have:=h2.length;rw[aT]at this;exact this.symm⟩
theorem DQ{d:D}:∀{ds:List D}{vs:Ry},au K H (ds++[d]) vs->∃ ys y,vs=ys++[y]/\al K H d y|[],vs,h=>by rw[List.nil_append]at h;unfold au at h;obtain⟨v,r,rfl,h1,h2⟩:=h;unfold au at h2;subst h2;exact⟨[],v,rfl,h1⟩|c::ds,vs,h=>by rw[List.cons_append]at h;unfold au at h;obtain⟨v,r,rfl,_,h2⟩:=h;obtain⟨ys,y,rfl,hy⟩:=DQ h2;exact⟨v::ys,y,rfl,hy⟩
theorem fj.inv{f:Fm}(h:fj cr ks f w i):(w="leaves"/\f.p=((cr f.n).P9.length:Int)/\i<(cr f.n).P7.length)\/(w≠("leaves":Str)/\((f.p<((cr f.n).P9.length:Int)/\w="notes"/\i<((cr f.n).P_.getD f.p.toNat []).length)\/(∃ d,fz (cr f.n) f.p=some d/\((∃ l,d=.hold l/\w="hold"/\i=0)\/∃ m g0 g1 t0 t1,d=.call m g0 g1 t0 t1/\w="needs"/\m∈ks/\i<(cr m).Qg.length)))):=by cases h with
 |P7 a b=>exact .inl ⟨rfl,a,b⟩|P_ a b=>exact .inr ⟨by decide,.inl ⟨a,rfl,b⟩⟩|hold a=>exact .inr ⟨by decide,.inr ⟨_,a,.inl ⟨_,rfl,rfl,rfl⟩⟩⟩|Qg a b c=>exact .inr ⟨by decide,.inr ⟨_,a,.inr ⟨_,_,_,_,_,rfl,rfl,b,c⟩⟩⟩
theorem GS{a:Q2}{g:TG}{te:TE}{σ0:L2.St}{Q:VK}(hz:xs.length<=sizeLine)(Pv:Nat->Hp->Prop)(h0:Pv 0 H1)(hl:∀ i H,Pv i H->ao K H a xs)(keep:∀ i H D o,H1 D=none->(∀ ys,H D≠some (.tup ys))->Pv i H->Pv i (upd H D o))(hs:∀ i x H D ys (R:VK),xs[i]?=some x->Pv i H->H1 D=none->H D=some (.lst ys)->(∀ H3,Pv (i+1) H3->H3 D=some (.lst ys)->R (.bl true) H3)->g x σ0 H λσ2 H2=>te σ2 H2 R)(fin:∀ D H,H1 D=none->Pv xs.length H->H D=some (.lst ((RB xs.length true).map V.bl))->Q (.ref D) H):pe (lg K a) g nC te σ0 H1 Q:=by
 intro Da hD;refine⟨λi m ys H=>m=xs.length - i/\i<=xs.length/\Pv i H/\H Da=some (.lst ys)/\ys=(RB i true).map V.bl,⟨xs.length,rfl,O2 _,keep 0 H1 Da _ hD (λys z=>by rw[hD]at z;cases z) h0,aq,rfl⟩,?_⟩;rintro i m ys H ⟨rfl,hi,hp,hH,rfl⟩;nomatch hH;have q:=hl i H hp;by_cases hlt:i<xs.length
 ·refine .inr ⟨⟨xs,xs[i],q,by simp[hlt]⟩,by simp;omega,λys' H'=>(xs.length - (i+1)<xs.length - i/\i+1<=xs.length/\Pv (i+1) H'/\H' Da=some (.lst ys')/\ys'=(RB (i+1) true).map V.bl),λys' H' ⟨q1,q2,q3,q4,q5⟩=>⟨xs.length - (i+1),q1,rfl,q2,q3,q4,q5⟩,λx H' hy=>?_⟩;obtain⟨e,y⟩:=hy;subst e;refine hs i x _ Da _ _ (y xs q) hp hD hH λH3 p3 h3=>?_;exact⟨h3,by omega,hlt,keep _ _ _ _ hD (λys z=>by rw[h3]at z;cases z) p3,aq,by rw[List.replicate_succ',OF];rfl⟩
 ·have e:i=xs.length:=by omega
  subst e;exact .inl ⟨⟨xs,q,On _⟩,fin Da H hD hp hH⟩
end My
set_option compiler.extract_closed false
set_option maxHeartbeats 8000000
set_option hygiene false
open PySem.W (mg_of nsIn findIn mg_none_of isFn keepIn excIn fnOf codeIn kia_one makesIn)
local macro_rules|`(tactic|delta $xs*)=>do
 let ts<-xs.mapM fun x=>`(Lean.Parser.Tactic.tacticSeq|refine $x ?_)
 `(tactic|first $[|$ts]*)
local macro_rules(kind:=PyProof.Rows.tacticWalk_at_)|x=>rdm (x[1].isStrLit?.getD "") #[]
local macro_rules(kind:=Lean.Parser.Tactic.tacticNofun)|x=>rdm "gs" #[]
local macro_rules(kind:=Lean.Parser.Tactic.acRfl)|x=>rdm "go" #[]
local macro_rules(kind:=Lean.Parser.Tactic.left)|x=>rdm "q" #[]
local macro_rules(kind:=Lean.Parser.Tactic.right)|x=>rdm "sm" #[]
local macro_rules(kind:=Lean.Parser.Tactic.obtain)|x=>rdm (if x[2].isNone then "ob" else "") #[x[3][1][0],x[1][0]]
local macro_rules(kind:=Lean.Parser.Tactic.«tacticExists_,,»)|x=>rdm "ex" #[x[1]]
namespace My
open PySem L2 PyProof.Rows
variable {K:Fg}{α:Type}
section
open PySem PySem.Spec PySem.Calls PyProof.Rows PySem.W L2
theorem bA(hA:((e8 K).all id,gI K)=(true,gH))(j:Nat){b:Bool}(h:(e8 K)[j]?=some b):b=true:=OJ.mp (Prod.mk.inj hA).1 b (cq h)
theorem eA(hA:((e8 K).all id,gI K)=(true,gH))(j:Nat)[BEq α][LawfulBEq α]{x y:α}(h:(e8 K)[j]?=some (x==y)):x=y:=eq_of_beq (bA hA j h)
def fA {K:Fg}(hA:((e8 K).all id,gI K)=(true,gH))(i j:Nat)(a:Q2)(n q:Str)(d:RM)(h1:(gI K)[i]?=some (L2.aW K a))(h2:gH[i]?=some (gS n q d))(h3:(e8 K)[j]?=some (L2.aV K a q)):=L2.Gn (n:=n) (ps:=jV d) (b:=gE d) (sc:=aI d) (OL (h1.symm.trans ((congrArg (λl:List (Option L2.oR)=>l[i]?) (Prod.mk.inj hA).2).trans h2))) (bA hA j h3)
end
theorem pK:aQ ["line","numbers","total","factor","number"] ["line","numbers"] (aI wD):=by walk_at "sc"
theorem IH:aQ ["line","numbers"] ["line","numbers"] (aI wC):=by walk_at "sc"
theorem Cw:aQ ["i"] ["i"] (aI vU):=by walk_at "sc"
theorem oy:aQ ["lines","weights","total","line","weight"] ["lines","weights"] (aI xg):=by walk_at "sc"
theorem DP:aQ ["line","eight","total"] ["line","eight"] (aI xf):=by walk_at "sc"
theorem yW:aQ ["self","needs","leaves","deeds","notes"] ["self","needs","leaves","deeds","notes"] (aI zd):=by walk_at "sc"
theorem Fh:aQ ["lines"] ["lines"] (aI yU):=by walk_at "sc"
theorem Fl:aQ ["deed"] ["deed"] (aI yt):=by walk_at "sc"
theorem MS:aQ ["craft"] ["craft"] (aI yT):=by walk_at "sc"
theorem L5:aQ ["craft"] ["craft"] (aI ux):=by walk_at "sc"
theorem IG:aQ ["craft"] ["craft"] (aI wB):=by walk_at "sc"
theorem E8:aQ ["craft","needs_right"] ["craft"] (aI yD):=by walk_at "sc"
theorem yK:aQ ["deeds","count"] ["deeds"] (aI yr):=by walk_at "sc"
theorem yJ:aQ ["craft","as_many"] ["craft"] (aI yq):=by walk_at "sc"
theorem Fk:aQ ["lines","nought_spots"] ["lines","nought_spots"] (aI yp):=by walk_at "sc"
theorem uC:aQ ["line","nought_spots","small"] ["line","nought_spots"] (aI yC):=by walk_at "sc"
theorem E2:aQ ["deed","last_place","kind"] ["deed","last_place"] (aI yB):=by walk_at "sc"
theorem MV:aQ ["low","high"] ["low","high"] (aI yo):=by walk_at "sc"
theorem E1:aQ ["number","given","taken","hands"] ["number","given","taken"] (aI yA):=by walk_at "sc"
theorem Fq:aQ ["hands"] ["hands"] (aI yY):=by walk_at "sc"
theorem MD:aQ ["hand"] ["hand"] (aI yz):=by walk_at "sc"
theorem MR:aQ ["number"] ["number"] (aI yS):=by walk_at "sc"
theorem K_:aQ ["low","number","high"] ["low","number","high"] (aI xr):=by walk_at "sc"
theorem t_:aQ ["craft","place","eight"] ["craft","place"] (aI xc):=by walk_at "sc"
theorem tZ:aQ ["craft","crafts","number","told","place"] ["craft","crafts"] (aI xb):=by walk_at "sc"
theorem Ff:aQ ["craft","begun"] ["craft"] (aI yR):=by walk_at "sc"
theorem p_:aQ ["craft","place","crafts","deed","notes","after","kind"] ["craft","place","crafts"] (aI yn):=by walk_at "sc"
theorem pZ:aQ ["deed","notes","after","line","by","not_above","greatest"] ["deed","notes","after"] (aI ym):=by walk_at "sc"
theorem yI:aQ ["deed","notes","after","from_low","to_high"] ["deed","notes","after"] (aI yl):=by walk_at "sc"
theorem Fj:aQ ["line","notes","there","after","below_nought"] ["line","notes","there","after"] (aI yk):=by walk_at "sc"
theorem oI:aQ ["deed","notes","after","other","given","taken","giving","taking","before"] ["deed","notes","after","other"] (aI yj):=by walk_at "sc"
theorem EQ:aQ ["goals","hypotheses"] ["goals","hypotheses"] (aI ye):=by walk_at "sc"
theorem EZ:aQ ["lines","eight"] ["lines","eight"] (aI yy):=by walk_at "sc"
theorem EY:aQ ["changes"] ["changes"] (aI yx):=by walk_at "sc"
theorem LO:aQ ["number"] ["number"] (aI xM):=by walk_at "sc"
theorem gC:aQ ["duty","row","goal","hypotheses","whole","weights","rest"] ["duty","row"] (aI wA):=by walk_at "sc"
theorem tY:aQ ["duty","rows_of_weights","whole","weights"] ["duty"] (aI w_):=by walk_at "sc"
theorem oJ:aQ ["count","found","bit"] ["count"] (aI y3):=by walk_at "sc"
theorem Nr:aQ ["self"] ["self"] (aI zi):=by walk_at "sc"
theorem LN:aQ ["self","number","craft"] ["self","number","craft"] (aI xL):=by walk_at "sc"
theorem Nq:aQ ["self"] ["self"] (aI zh):=by walk_at "sc"
theorem yH:aQ ["self","told","number"] ["self"] (aI yi):=by walk_at "sc"
theorem uz:aQ ["self","number","rows"] ["self","number"] (aI yd):=by walk_at "sc"
theorem L4:aQ ["self","number"] ["self","number"] (aI yc):=by walk_at "sc"
theorem uB:aQ ["self","number","reached","waiting","other"] ["self","number"] (aI yw):=by walk_at "sc"
theorem Fc:aQ ["self","number"] ["self","number"] (aI yv):=by walk_at "sc"
theorem NC:aQ ["self","number"] ["self","number"] (aI yX):=by walk_at "sc"
theorem NH:aQ ["self","number"] ["self","number"] (aI zc):=by walk_at "sc"
theorem NG:aQ ["self","number"] ["self","number"] (aI zb):=by walk_at "sc"
theorem MQ:aQ ["self","number"] ["self","number"] (aI yQ):=by walk_at "sc"
theorem Ft:aQ ["self","number","caller"] ["self","number"] (aI zm):=by walk_at "sc"
theorem L3:aQ ["craft","other"] ["craft","other"] (aI yb):=by walk_at "sc"
theorem NF:aQ ["self","number","asked"] ["self","number","asked"] (aI y_):=by walk_at "sc"
theorem Np:aQ ["self"] ["self"] (aI zg):=by walk_at "sc"
theorem MP:aQ ["self","hall","number","given","inputs"] ["self","hall","number","given","inputs"] (aI yP):=by walk_at "sc"
theorem D5:aQ ["self","fuel"] ["self","fuel"] (aI w9):=by walk_at "sc"
theorem Fb:aQ ["self"] ["self"] (aI yu):=by walk_at "sc"
theorem pX:aQ ["self","frame","deed","kind","given"] ["self"] (aI xK):=by walk_at "sc"
theorem EC:aQ ["self","hand","number","frame"] ["self","hand","number"] (aI xq):=by walk_at "sc"
theorem EE:aQ ["self","hand","low","high","drawn"] ["self","hand","low","high"] (aI xJ):=by walk_at "sc"
theorem EN:aQ ["self","line","frame"] ["self","line"] (aI xI):=by walk_at "sc"
theorem LM:aQ ["self","number","given"] ["self","number","given"] (aI xH):=by walk_at "sc"
theorem Mn:aQ ["self","number","given"] ["self","number","given"] (aI ya):=by walk_at "sc"
theorem Fi:aQ ["self","place","frame"] ["self","place"] (aI yh):=by walk_at "sc"
theorem Fu:aQ ["self","frame"] ["self"] (aI zl):=by walk_at "sc"
theorem Fp:aQ ["self","frame"] ["self"] (aI y8):=by walk_at "sc"
theorem EO:aQ ["self","frame"] ["self"] (aI x_):=by walk_at "sc"
theorem yf:aQ ["self","left_0","left_1","frame","taken"] ["self","left_0","left_1"] (aI xG):=by walk_at "sc"
theorem M9:aQ ["self","frame"] ["self","frame"] (aI yO):=by walk_at "sc"
theorem xP:aQ ["self","word","lines","numbers","unmet","frame"] ["self","word","lines","numbers"] (aI xZ):=by walk_at "sc"
theorem yV:aQ ["lines","numbers","spot","line"] ["lines","numbers"] (aI yg):=by walk_at "sc"
theorem Nn:aQ ["asked"] ["asked"] (aI zf):=by walk_at "sc"
theorem Mm:aQ ["script","k"] ["script","k"] (aI xY):=by walk_at "sc"
theorem IE:aQ ["cell","k","many"] ["cell","k","many"] (aI wz):=by walk_at "sc"
theorem EM:aQ ["cell","k","kind"] ["cell","k"] (aI xF):=by walk_at "sc"
theorem D4:aQ ["i"] ["i"] (aI w6):=by walk_at "sc"
theorem uy:aQ ["cell","zero","line","k"] ["cell","zero"] (aI xX):=by walk_at "sc"
theorem D3:aQ ["cell"] ["cell"] (aI wZ):=by walk_at "sc"
theorem Fe:aQ ["cell","count","low"] ["cell","count"] (aI yN):=by walk_at "sc"
theorem mJ:aQ ["cell","count","numbers","kinds","more","hand","way","at","first","pair"] ["cell","count","numbers","kinds"] (aI yM):=by walk_at "sc"
theorem uF:aQ ["cell","count","numbers","kinds","more","way","at"] ["cell","count","numbers","kinds"] (aI yG):=by walk_at "sc"
theorem i9:aQ ["kind","cells","numbers","kinds","count","deeds","needs","notes"] ["kind","cells","numbers","kinds"] (aI yF):=by walk_at "sc"
theorem iN:aQ ["script","start","many","size","numbers","k","number","kinds","found","count","cells"] ["script","start","many","size"] (aI yL):=by walk_at "sc"
theorem oH:aQ ["cell","count","line","hand","kind","low","given"] ["cell","count"] (aI xW):=by walk_at "sc"
theorem j3:aQ ["parts","cell","numbers","needs","leaves","deeds","notes","at","line","deed"] ["parts","cell","numbers"] (aI xV):=by walk_at "sc"
theorem LL:aQ ["hall","number"] ["hall","number"] (aI xE):=by walk_at "sc"
theorem LK:aQ ["hall","number","given","rest"] ["hall","number","given","rest"] (aI xD):=by walk_at "sc"
theorem xo:aQ ["told","run","crafts","parts","place","deed"] ["told","run","crafts"] (aI wY):=by walk_at "sc"
theorem eW:aQ ["script","many","placed","numbers","crafts","hall","k","pair","cell","parts","number","given","rest","run","told"] ["script"] (aI md):=by walk_at "sc"
structure Bl (K:Fg)(mg:Str->Option be):Prop where
 all:mg "all"=none
 any:mg "any"=none
 enumerate:mg "enumerate"=none
 int:mg "int"=none
 isinstance:mg "isinstance"=none
 len:mg "len"=none
 list:mg "list"=none
 max:mg "max"=none
 min:mg "min"=none
 range:mg "range"=none
 sorted:mg "sorted"=none
 tuple:mg "tuple"=none
 zip:mg "zip"=none
 Rk:∃ t,mg "NUMBERS"=some (.int 9 t)
 QN:∃ t,mg "FACTORS"=some (.int 8 t)
 Rb:∃ t,mg "MOST_LINES"=some (.int 2 t)
 Rc:∃ t,mg "MOST_DEEDS"=some (.int 8 t)
 Re:∃ t,mg "LAST_HAND"=some (.int 3 t)
 QU:∃ t,mg "LAST_NUMBER"=some (.int 99 t)
 QV:∃ t,mg "GREATEST_BY"=some (.int 1000 t)
 QR:∃ t,mg "GREATEST"=some (.int 1000000000 t)
 QZ:∃ t,mg "ASKED_0"=some (.int 4 t)
 QY:∃ t,mg "ASKED_1"=some (.int 5 t)
 QM:∃ t,mg "NEW_0"=some (.int 6 t)
 Ro:∃ t,mg "NEW_1"=some (.int 7 t)
 QT:∃ t,mg "MOST_FRAMES"=some (.int 20 t)
 Q_:∃ a,mg "HAND_SPOTS"=some (.ref a)/\∀ H,aB K H a [.int 1,.int 2,.int 3,.int 4]
 QO:∃ a,mg "LEFT_SPOTS"=some (.ref a)/\∀ H,aB K H a [.int 7,.int 8]
 QQ:∃ a,mg "LEFT_AS_HANDS"=some (.ref a)/\∀ H,aB K H a [.int 0,.int 1,.int 2,.int 3,.int 4,.int 5,.int 0,.int 1]
 Rl:∃ a,mg "WHOLES"=some (.ref a)/\∀ H,aB K H a [.int 1,.int 2,.int 3,.int 4]
structure Zt (K:Fg)(mg:Str->Option be)(C:Nat->Q2):Prop where
 Qn:fH K (C 0)
 Rn:mg "Craft"=some (.ref (C 0))
 Qz:eL K (C 0) "needs"
 QC:eL K (C 0) "leaves"
 Qt:eL K (C 0) "deeds"
 QD:eL K (C 0) "notes"
 Rq:kd K (C 1) fN
 Rp:mg "HallError"=some (.ref (C 1))
 Rg:kd K (C 2) (.ref (C 1)::fN)
 Rf:mg "BadSheet"=some (.ref (C 2))
 QX:kd K (C 3) (.ref (C 1)::fN)
 QW:mg "NoCraft"=some (.ref (C 3))
 Rj:kd K (C 4) (.ref (C 1)::fN)
 Rh:mg "Unmet"=some (.ref (C 4))
 Ra:kd K (C 5) (.ref (C 1)::fN)
 Ri:mg "Unfit"=some (.ref (C 5))
 Qx:fH K (C 6)
 Rr:mg "Hall"=some (.ref (C 6))
 QB:eL K (C 6) "laid"
 QG:eL K (C 6) "vouched"
 Qm:fH K (C 7)
 Rm:mg "Frame"=some (.ref (C 7))
 QK:eL K (C 7) "number"
 Qp:eL K (C 7) "place"
 Qs:eL K (C 7) "hands"
 QP:eL K (C 7) "asked"
 Qk:fH K (C 8)
 Ru:mg "Run"=some (.ref (C 8))
 QH:eL K (C 8) "known"
 QJ:eL K (C 8) "inputs_left"
 Qr:eL K (C 8) "stack"
 QL:eL K (C 8) "steps_done"
 Qu:eL K (C 8) "ending"
variable {b p dx a la na y:Q2}{H H':Hp}{Q:VK}{E:XK}{i c n k0 k1:Int}{C:Nat->Q2}{xs:Ry}{v:V}{P:Rv->Prop}{l l0 l1 ns:Rv}{S:Rz}{w:R3}{mg:Str->Option be}
section
variable {P:RP}{b8:RW}{f:Q2}{fd:FuncData}(B:Bl K mg)(Z:Zt K mg C)
inductive Q9 (K:Fg)(vs:Ry)(H:Hp)(Q:VK)(E:XK):Prop|mk (a:Q2) (ls:Rw):vs=[.ref a]->al K H (bo ls) (.ref a)->ls.length<=1000->(∀ v H',ae H H'->ak H H' (bo ls) v->Q v H')->Q9 K vs H Q E
include B Z in
theorem M8 (F:aN K "copied_lines" "copied_lines" yU f fd)(m:mg "copied_lines"=some (.ref f)):Fn P w K mg b8 "copied_lines" ["lines"] 1 (Q9 K):=by
 refine bQ F Fh m λ_ _ _ _ H vs Q E hr h=>?_;obtain⟨a,ls,rfl,hA,hl,q⟩:=h;nomatch _,(aw (aF (jC (bB.f Fh ["lines","line"] [false,true]) (c_ K (pv 0)) (λn=>(jg 1 n)) (mI (s_ K) rfl B.list L2.oE (jn 1 ag)))));unfold bo al at hA;obtain⟨a',xs,e,hA,hx⟩:=hA;cases e;have lx:=hx.length;rw[aT]at lx;ac_rfl;nomatch a,rfl,⟨_,hA⟩;refine cG (dO hA) (ls.map nums) (by rw[aT];omega) (br (by omega)) (λj x' d H4 R hj hd s4 hx' hR=>?_) (λv H4 s4 n4=>?_)
 ·obtain⟨d2,hd2,hrx⟩:=au.get' hx hx';rw[hd2]at hd;cases hd;rw[aM]at hd2;obtain⟨l,hl,rfl⟩:=bV.mp hd2;obtain⟨xa,rfl,hxa⟩:=fO.mp (al.same s4 _ hrx);ac_rfl;refine tT (.inl hxa) λp hp=>?_;exact hR _ _ (ax hp _) (ak.iif.mpr ⟨p,rfl,hp,aq⟩)
 exact q _ _ s4 n4
inductive Qb (K:Fg)(vs:Ry)(H:Hp)(Q:VK)(E:XK):Prop|mk (v:V) (d:D):vs=[v]->iI H d v->(∀ v' H',ae H H'->ak H H' d v'->Q v' H')->Qb K vs H Q E
include B Z in
theorem MU (F:aN K "copied_deed" "copied_deed" yt f fd)(m:mg "copied_deed"=some (.ref f)):Fn P w K mg b8 "copied_deed" ["deed"] 1 (Qb K):=by
 refine bQ F Fl m λ_ _ _ _ H vs Q E hr h=>?_;obtain⟨v,d,rfl,hd,q⟩:=h;nomatch _,(aw (aF (mI (Id K) rfl B.tuple L2.KU (iH (jC (bB.f Fl ["deed","part"] [false,true]) (pd K (pv 0)) (λn=>(jg 1 n)) (wX (gj (b9 (qU K) rfl B.isinstance L2.Nz (jn 1 (dU (HS (v:=.ty "list") rfl B.list L2.oE rfl) ag)))) (mI (s_ K) rfl B.list L2.oE (jn 1 ag)) (pv 1))) ag))));obtain⟨t,xs,ds,rfl,rfl,ht,hl,h8,hp⟩:=hd;ac_rfl;nomatch t,rfl,⟨_,aB.of ht⟩;refine cG (pN (aB.of ht)) ds hl (br (by omega)) (λj x d H1 R hj hd s1 hx hR=>?_) (λv H1 s1 n1=>?_)
 ·have part:=(hp j d x hd hx).sq s1.sq;ac_rfl;rcases part with⟨i,rfl,rfl⟩|⟨i,rfl,rfl⟩|⟨b,l,rfl,rfl,hb⟩|⟨b,i,k,rfl,rfl,hb⟩
  ·refine sV (.int i) MF ?_;ac_rfl;exact hR _ _ (ae.refl _) ak.int
  ·refine sV (.str i) ME ?_;ac_rfl;exact hR _ _ (ae.refl _) ak.str
  ·refine sV (.lst hb) JV ?_;ac_rfl;refine tT (.inl (ao.of hb)) λp hp'=>?_;exact hR _ _ (ax hp' _) (ak.iif.mpr ⟨p,rfl,hp',aq⟩)
  ·refine sV (.tup hb) MX ?_;ac_rfl;exact hR _ _ (ae.refl _) ⟨[],ai.pair hb,OX,λ_ m=>by cases m⟩
 obtain⟨la,vs,rfl,la0,la1,fp,f1,f2,f3⟩:=ak.news n1;ac_rfl;refine JU (ao.of la1) λp hp'=>?_;have s2:=ax hp' (.tup vs);exact q _ _ (s1.trans s2) (ak.tup (aj.sq s2.sq ds f1) f2 f3 aq)
inductive Q8 (K:Fg)(C:Nat->Q2)(vs:Ry)(H:Hp)(Q:VK)(E:XK):Prop|mk (p dx:Q2) (v1 v2 v3 v4:V) (Qg P7:Rw) (P9:List D) (P_:Rx) (a3 a4:Q2) (Qy QI:Ry):vs=[.ref p,v1,v2,v3,v4]->H p=some (.ins (C 0) dx [])->al K H (bo Qg) v1->al K H (bo P7) v2->v3=.ref a3->ao K H a3 Qy->v4=.ref a4->ao K H a4 QI->Qg.length<=1000->P7.length<=1000->P9.length<=1000->P_.length<=1000->P9.length=Qy.length->P_.length=QI.length->(∀(i:Nat) d x,P9[i]?=some d->Qy[i]?=some x->iI H d x)->(∀(i:Nat) ls x,P_[i]?=some ls->QI[i]?=some x->ls.length<=1000/\al K H (bo ls) x)->(∀ H' w1 w2 w3 w4,(∀ b o,H b=some o->b≠p->H' b=some o)->H' p=some (.ins (C 0) dx (cU w1 w2 w3 w4))->bD H H' (CO Qg P7 P9 P_) [w1,w2,w3,w4]->Q .non H')->Q8 K C vs H Q E
variable (Qa:Fn P w K mg b8 "copied_lines" ["lines"] 1 (Q9 K))
include B Z Qa in
theorem ID (Qc:Fn P w K mg b8 "copied_deed" ["deed"] 1 (Qb K))(F:aN K "__init__" "Craft.__init__" zd f fd)(M:Mk K (C 0) f):kZ P w K mg b8 "Craft" (C 0) ["self","needs","leaves","deeds","notes"] 2 (Q8 K C):=by
 refine zM F M yW Z.Rn λ_ _ _ _ H vs Q E hr h=>?_;obtain⟨p,dx,v1,v2,v3,v4,Qg,P7,P9,P_,a3,a4,Qy,QI,rfl,hp,r1,r2,rfl,h3,rfl,h4,l1,l2,l3,l4,e3,e4,dr,nr,q⟩:=h;refine⟨_,(av (d0 (pv 0) (jl Qa hr (jn 1 ag)) rfl)
   (av (d0 (pv 0) (jl Qa hr (jn 2 ag)) rfl)
   (av (d0 (pv 0) (jC (bB.f yW ["self","needs","leaves","deeds","notes","deed"] [false,false,false,false,false,true]) (c_ K (pv 3)) (λn=>(jg 5 n)) (jl Qc hr (jn 5 ag))) rfl)
   (aw (d0 (pv 0) (jC (bB.f yW ["self","needs","leaves","deeds","notes","lines"] [false,false,false,false,false,true]) (c_ K (pv 4)) (λn=>(jg 5 n)) (jl Qa hr (jn 5 ag))) rfl))))),?_⟩
 obtain⟨b1,rfl⟩:∃ b,v1=.ref b:=by unfold bo al at r1;obtain⟨a,_,e,_⟩:=r1;exact⟨a,e⟩
 obtain⟨b2,rfl⟩:∃ b,v2=.ref b:=by unfold bo al at r2;obtain⟨a,_,e,_⟩:=r2;exact⟨a,e⟩
 ac_rfl;refine⟨b1,Qg,rfl,r1,l1,λw1 H1 s1 n1=>?_⟩;ac_rfl;refine⟨p,(C 0),dx,[],rfl,s1 _ _ hp,Z.Qn,Z.Qz,by show 0<1000;decide,?_⟩;have k1:Sq H (upd H1 p (.ins (C 0) dx (ar "needs" w1 []))):=s1.sq.trans (jI (s1 _ _ hp) rfl);have u1:bD H (upd H1 p (.ins (C 0) dx (ar "needs" w1 []))) [bo Qg] [w1]:=(bD.nil.snoc' (H:=H) (H1:=H) (ae.refl H).fr s1 n1).sq (jI (s1 _ _ hp) rfl);have f1:cE H (upd H1 p (.ins (C 0) dx (ar "needs" w1 []))):=s1.fr.trans j0;ac_rfl;refine⟨b2,P7,rfl,al.sq k1 _ r2,l2,λw2 H2 s2 n2=>?_⟩;have p2:=s2 _ _ (aq (H:=H1) (a:=p) (o:=.ins (C 0) dx (ar "needs" w1 [])));ac_rfl;nomatch p,(C 0),dx,_,rfl,p2,Z.Qn,Z.QC,Ov (ej (n:=1) (by decide)) (by decide);have k2:=k1.trans (s2.sq.trans (jI (o:=.ins (C 0) dx (ar "leaves" w2 (ar "needs" w1 []))) p2 rfl));have u2:=(u1.snoc' f1 s2 n2).sq (jI (o:=.ins (C 0) dx (ar "leaves" w2 (ar "needs" w1 []))) p2 rfl);have f2:cE H (upd H2 p (.ins (C 0) dx (ar "leaves" w2 (ar "needs" w1 [])))):=f1.trans (s2.fr.trans j0);ac_rfl;nomatch a3,rfl,⟨_,k2.lst h3⟩;refine cG (dO (k2.lst h3)) P9 e3 (br (by omega)) (λj x d H3 R hj hd s3 hx hR=>?_) (λw3 H3 s3 n3=>?_)
 ·ac_rfl;refine⟨x,d,rfl,(dr j d x hd hx).sq (k2.trans s3.sq),λv' H4 s4 n4=>?_⟩;exact hR _ _ s4 n4
 have p3:=s3 _ _ (aq (H:=H2) (a:=p) (o:=.ins (C 0) dx (ar "leaves" w2 (ar "needs" w1 []))));ac_rfl;nomatch p,(C 0),dx,_,rfl,p3,Z.Qn,Z.Qt,Ov (ej (n:=2) (ej (n:=1) (by decide))) (by decide);have k3:=k2.trans (s3.sq.trans (jI (o:=.ins (C 0) dx (ar "deeds" w3 (ar "leaves" w2 (ar "needs" w1 [])))) p3 rfl));have u3:=(u2.snoc' f2 s3 n3).sq (jI (o:=.ins (C 0) dx (ar "deeds" w3 (ar "leaves" w2 (ar "needs" w1 [])))) p3 rfl);have f3:cE H (upd H3 p (.ins (C 0) dx (ar "deeds" w3 (ar "leaves" w2 (ar "needs" w1 []))))):=f2.trans (s3.fr.trans j0);ac_rfl;nomatch a4,rfl,⟨_,k3.lst h4⟩;refine cG (dO (k3.lst h4)) (P_.map bo) (by rw[aT];exact e4) (br (by omega)) (λj x d H4 R hj hd s4 hx hR=>?_) (λw4 H4 s4 n4=>?_)
 ·rw[aM]at hd;obtain⟨ls,hls,rfl⟩:=bV.mp hd;obtain⟨hz,hr2⟩:=nr j ls x hls hx;have hr3:=al.sq (k3.trans s4.sq) _ hr2;obtain⟨b,rfl⟩:∃ b,x=.ref b:=by unfold bo al at hr3;obtain⟨a,_,e,_⟩:=hr3;exact⟨a,e⟩
  ac_rfl;refine⟨b,ls,rfl,hr3,hz,λv' H5 s5 n5=>?_⟩;exact hR _ _ s5 n5
 have p4:=s4 _ _ (aq (H:=H3) (a:=p) (o:=.ins (C 0) dx (ar "deeds" w3 (ar "leaves" w2 (ar "needs" w1 [])))));ac_rfl;nomatch p,(C 0),dx,_,rfl,p4,Z.Qn,Z.QD,Ov (ej (n:=3) (ej (n:=2) (ej (n:=1) (by decide)))) (by decide);have u4:=(u3.snoc' f3 s4 n4).sq (jI (o:=.ins (C 0) dx (ar "notes" w4 (ar "deeds" w3 (ar "leaves" w2 (ar "needs" w1 []))))) p4 rfl);refine q _ w1 w2 w3 w4 (λb o e hb=>?_) aq u4;rw[aC hb];refine s4 _ _ ?_;rw[aC hb];refine s3 _ _ ?_;rw[aC hb];refine s2 _ _ ?_;rw[aC hb];exact s1 _ _ e
def sG (fs ns:Rv):Prop:=∀(i:Nat) (f n:Int),fs[i]?=some f->ns[i]?=some n->fY f n
def FC (K:Fg)(R:Int->V):Sp:=λvs H Q _=>∃(a b:Q2) (c:Int) (fs ns:Rv),vs=[.ref a,.ref b]/\ao K H a ((c::fs).map V.int)/\ao K H b (ns.map V.int)/\fs.length=8/\ns.length=8/\sG fs ns/\
 ∀ H',ae H H'->Q (R (c+bY fs ns)) H'
def xu (K:Fg):Sp:=FC K .int
include B Z in
theorem Jj (F:aN K "worth" "worth" wD f fd)(m:mg "worth"=some (.ref f)):Fn P w K mg b8 "worth" ["line","numbers"] 1 (xu K):=by
 refine bQ F pK m λ_ _ _ _ H vs Q E hr h=>?_;obtain⟨a,b,c,fs,ns,rfl,hA,hB,lf,ln,mo,q⟩:=h;refine⟨_,(av (js 2 pK.nd (jx K (pv 0) ah))
   (av (gx RN rfl (vH K rfl B.zip (bc (i4 (eE K) (pv 0) (iW ah) iX) (jn 1 ag))) (mv K (n:=2) rfl (fB (jg 3 pK.nd) (fB (jg 4 pK.nd) lG))) (aw (js 2 pK.nd (jp K (pv 2) (aK h_ (pv 3) (pv 4))))))
   (aw (aF (pv 2))))),?_⟩
 ac_rfl;refine bK hA (v:=.int c) db ?_;ac_rfl;ac_rfl;refine .inl ⟨a,_,rfl,hA,λp hp=>?_⟩;have s1:=ax hp (.lst (bM ((c::fs).map V.int) (some 1) none));have ec:bM ((c::fs).map V.int) (some 1) none=fs.map V.int:=by unfold bM;rw[show HT.sIx ((c::fs).map V.int).length 0 (some 1)=1 by rw[show(1:Int)=((1:Nat):Int)by rfl,HT.sIx_nat];simp];rw[HT.sIx_none];simp[Oy]
 rw[ec]at s1 ⊢;ac_rfl;nomatch p,b,rfl,⟨_,ao.of aq⟩,⟨_,s1.seq hB⟩;refine oh (wU (n:=8) (ao.of aq) (s1.seq hB) (by simp[lf,ln])) (λi σ H2=>∃ x y,σ=[some (.ref a),some (.ref b),some (.int (c+bY (fs.take i) (ns.take i))),x,y]/\ae (upd H p (.lst (fs.map V.int))) H2)
  ⟨none,none,by simp[bY];rfl,ae.refl _⟩ (λi σ H2 ⟨_,_,_,e⟩=>e) ?_ ?_
 ·rintro i v σ H2 H3 hi ⟨x,y,rfl,s2⟩ s3 ⟨T,u,z,rfl,hT,eu,ez⟩;rw[aM]at eu ez;obtain⟨f,hf,rfl⟩:=bV.mp eu;obtain⟨n,hn,rfl⟩:=bV.mp ez;refine⟨T,_,rfl,aB.of hT,rfl,⟨_,_,rfl,?_⟩⟩;nomatch _,_,rfl;nomatch rfl;ac_rfl;refine wR (mo i f n hf hn) ?_;ac_rfl;refine⟨some (.int f),some (.int n),?_,s2.trans s3⟩;rw[E_ fs ns i f n hf hn,Int.add_assoc];rfl
 ·rintro σ H2 ⟨x,y,rfl,s2⟩;ac_rfl;rw[Oy (by omega),Oy (by omega)];exact q _ (s1.trans s2)
def xt (K:Fg):Sp:=FC K λt=>.bl (decide (0<=t))
variable (Q0:Fn P w K mg b8 "worth" ["line","numbers"] 1 (xu K))
include B Z Q0 in
theorem Ji (F:aN K "holds" "holds" wC f fd)(m:mg "holds"=some (.ref f)):Fn P w K mg b8 "holds" ["line","numbers"] 2 (xt K):=by refine bQ F IH m λ_ _ _ _ H vs Q E hr h=>?_;obtain⟨a,b,c,fs,ns,rfl,hA,hB,lf,ln,mo,q⟩:=h;nomatch _,(aw (aF (jv BK (jl Q0 hr (jn 0 (jn 1 ag))) ah)));ac_rfl;refine⟨a,b,c,fs,ns,rfl,hA,hB,lf,ln,mo,λH' s1=>?_⟩;ac_rfl;exact q H' s1
def xO (K:Fg):Sp:=λvs H Q _=>∃ i:Int,vs=[.int i]/\∀ v H',ae H H'->ak H H' (nums (aD i)) v->Q v H'
theorem g8(q:∀ v H',ae H H'->ak H H' (nums (aD i)) v->Q v H'):xO K [.int i] H Q E:=⟨i,rfl,q⟩
include B Z in
theorem GR (F:aN K "bare" "bare" vU f fd)(m:mg "bare"=some (.ref f)):Fn P w K mg b8 "bare" ["i"] 1 (xO K):=by
 refine bQ F Cw m λ_ _ _ _ H vs Q E hr h=>?_;obtain⟨i,rfl,q⟩:=h;nomatch _,(aw (aF (jp K (bu (jk ag)) (jC (bB.f Cw ["i","factor"] [false,true]) (hU rfl B.range (dU (dP rfl B.QN) ag)) (λn=>(jg 1 n)) (wX (jt K hr (pv 1) (pv 0)) ah ah)))));ac_rfl;refine⟨by decide,λp hp=>?_⟩;ac_rfl;refine hJ (by decide) (by decide) ?_;refine cG (n:=8) kO (((RD 8).map λ(k:Nat)=>(if(0+(k:Int))=i then 1 else 0:Int)).map D.int) (by simp) (by decide) (λj x d H1 R hj hd s1 hx hR=>?_) (λv H1 s1 n1=>?_)
 ·subst hx;rw[OZ]at hd;have hd':=oF hd;subst hd';ac_rfl;refine bC (λe=>?_) (λe=>?_)
  ·have e':0+(j:Int)=i:=Ot e;ac_rfl;refine hR _ _ (ae.refl _) ?_;simp only[Function.comp,Ol e'];exact ak.int
  ·have e':¬ 0+(j:Int)=i:=Ou (Ow.mpr e);ac_rfl;refine hR _ _ (ae.refl _) ?_;simp only[Function.comp,Oh e'];exact ak.int
 obtain⟨la,rfl,la0,la1⟩:=ak.iif.mp n1;have s2:=(ax hp (.lst [.int 0])).trans s1;refine dW (s1 _ _ aq) la1 (by simp;decide) λr hr'=>?_;refine q _ _ (s2.trans (ax hr' _)) (ak.iif.mpr ⟨r,rfl,s2.free hr',?_⟩);rw[aq];rfl
inductive Q4 (K:Fg)(vs:Ry)(H:Hp)(Q:VK)(E:XK):Prop|mk (a b:Q2) (ls:Rw) (ws:Rv):vs=[.ref a,.ref b]->al K H (.lst (ls.map nums)) (.ref a)->ao K H b (ws.map V.int)->ls.length=ws.length->ls.length<=1000->(∀ l∈ls,l.length=9)->sP ls ws->(∀ v H',ae H H'->ak H H' (nums (fD ls ws)) v->Q v H')->Q4 K vs H Q E
include B Z in
theorem Jr (F:aN K "summed" "summed" xg f fd)(m:mg "summed"=some (.ref f)):Fn P w K mg b8 "summed" ["lines","weights"] 1 (Q4 K):=by
 refine bQ F oy m λ_ _ _ _ H vs Q E hr h=>?_;obtain⟨a,b,ls,ws,rfl,hA,hB,hl,h1000,h9,ok,q⟩:=h;refine⟨_,(av (js 2 oy.nd (aK h_ (bu (jk ag)) (dP rfl B.Rk)))
   (av (gx RN rfl (vH K rfl B.zip (jn 0 (jn 1 ag))) (mv K (n:=2) rfl (fB (jg 3 oy.nd) (fB (jg 4 oy.nd) lG))) (aw (jS 2 oy.nd (bB.f oy ["lines","weights","total","line","weight","so_far","number"] [false,false,false,false,false,true,true]) (vH K rfl B.zip (jn 2 (jn 3 ag))) (λn=>(mv K (n:=2) rfl (fB (jg 5 n) (fB (jg 6 n) lG)))) (jp K (pv 5) (aK h_ (pv 6) (pv 4))))))
   (aw (aF (pv 2))))),?_⟩
 unfold al at hA;obtain⟨a',xs,e,hA,hx⟩:=hA;cases e;have lx:=hx.length;rw[aT]at lx;ac_rfl;refine⟨by decide,λp hp=>?_⟩;ac_rfl;refine .inr ⟨p,9,[.int 0],rfl,rfl,aq,by decide,by decide,by decide,λt ht=>?_⟩;have s0:=(ax hp (.lst [.int 0])).trans (ax ht (.lst (RB (9:Int).toNat [V.int 0]).flatten));ac_rfl;nomatch a,b,rfl,⟨_,s0.seq hA⟩,⟨_,s0.seq hB⟩;refine oh (n:=ws.length) (wU (s0.seq hA) (s0.seq hB) (by rw[aT];omega)) (λi σ H2=>∃(ta:Q2) (x y:Option V),σ=[some (.ref a),some (.ref b),some (.ref ta),x,y]/\ae (upd (upd H p (.lst [.int 0])) t (.lst (RB (9:Int).toNat [V.int 0]).flatten)) H2/\H ta=none/\H2 ta=some (.lst ((ft ((ls.zip ws).take i) (RB 9 0)).map V.int)))
  ⟨t,none,none,rfl,ae.refl _,(ax hp _).free ht,by rw[aq];rfl⟩ (λi σ H2 ⟨_,_,_,_,e,_⟩=>e) ?_ ?_
 ·rintro i v σ H2 H3 hi ⟨ta,x,y,rfl,s2,ta0,ta1⟩ s3 ⟨T,u,z,rfl,hT,eu,ez⟩;have il:i<ls.length:=by omega
  rw[aM]at ez;obtain⟨w',hw,rfl⟩:=bV.mp ez;obtain⟨dl,hdl,hru⟩:=hx.get' eu;rw[aM,Om il]at hdl;cases hdl;obtain⟨lu,rfl,hlu⟩:=fO.mp (al.same (s0.trans (s2.trans s3)) _ hru);have l9:=h9 ls[i] (OO il);have ft9:(ft ((ls.zip ws).take i) (RB 9 0)).length=9:=yE _ _ (by simp) λp hp=>vX h9 p (List.mem_of_mem_take hp);refine⟨T,_,rfl,aB.of hT,rfl,⟨_,_,rfl,?_⟩⟩;nomatch _,_,rfl;nomatch rfl;ac_rfl;nomatch ta,lu,rfl,⟨_,ao.of (s3 _ _ ta1)⟩,⟨_,hlu⟩;refine cG (n:=9) (wU (ao.of (s3 _ _ ta1)) hlu (by rw[aT,aT,ft9,l9];rfl)) ((cW w' (ft ((ls.zip ws).take i) (RB 9 0)) ls[i]).map D.int) (by rw[aT];exact ut ft9 l9) (by decide) (λj x' d H4 R hj hd s4 hx' hR=>?_) (λv H4 s4 n4=>?_)
  ·obtain⟨T2,u2,z2,rfl,hT2,e1,e2⟩:=hx';rw[aM]at e1 e2;obtain⟨s',hs',rfl⟩:=bV.mp e1;obtain⟨n',hn',rfl⟩:=bV.mp e2;have ed:d=.int (s'+n'*w'):=by unfold cW at hd;rw[aM,List.getElem?_zipWith,hs',hn']at hd;cases hd;rfl
   subst ed;refine⟨T2,_,rfl,aB.of hT2,rfl,⟨_,_,rfl,?_⟩⟩;nomatch _,_,rfl;nomatch rfl;ac_rfl;refine wR (ok i ls[i] w' (by simp) hw n' (cq hn')) ?_;ac_rfl;exact hR _ _ (ae.refl _) ak.int
  obtain⟨na,rfl,na0,na1⟩:=ak.iif.mp n4;ac_rfl;nomatch na,_,_,rfl,s2.trans (s3.trans s4),(s0.trans (s2.trans s3)).free na0;rw[na1,O5,Iu (Om il) hw,KR]
 ·rintro σ H2 ⟨ta,x,y,rfl,s2,ta0,ta1⟩;ac_rfl;refine q _ _ (s0.trans s2) (ak.iif.mpr ⟨ta,rfl,ta0,?_⟩);rw[ta1,Oy (by rw[List.length_zip];omega)];rfl
inductive Q6 (K:Fg)(vs:Ry)(H:Hp)(Q:VK)(E:XK):Prop|mk (a b:Q2) (c:Int) (fs:Rv) (ls:Rw):vs=[.ref a,.ref b]->ao K H a ((c::fs).map V.int)->al K H (.lst (ls.map nums)) (.ref b)->fs.length=8->ls.length=8->(∀ l∈ls,l.length=9)->sP ls fs->(∀ v H',ae H H'->ak H H' (nums (ck (c::fs) ls)) v->Q v H')->Q6 K vs H Q E
theorem Jh (c:Int)(fs:Rv):bM ((c::fs).map V.int) (some 1) none=fs.map V.int:=by unfold bM;rw[show HT.sIx ((c::fs).map V.int).length 0 (some 1)=1 by rw[show(1:Int)=((1:Nat):Int)by rfl,HT.sIx_nat];simp];rw[HT.sIx_none];simp[Oy]
variable (Q5:Fn P w K mg b8 "summed" ["lines","weights"] 1 (Q4 K))
include B Z Q5 in
theorem Jq (F:aN K "turned" "turned" xf f fd)(m:mg "turned"=some (.ref f)):Fn P w K mg b8 "turned" ["line","eight"] 2 (Q6 K):=by
 refine bQ F DP m λ_ _ _ _ H vs Q E hr h=>?_;obtain⟨a,b,c,fs,ls,rfl,hA,hB,lf,ll,h9,ok,q⟩:=h;refine⟨_,(av (js 2 DP.nd (jl Q5 hr (jn 1 (bc (i4 (eE K) (pv 0) (iW ah) iX) ag))))
   (av (nV (jp K (jx K (pv 2) ah) (jx K (pv 0) ah)) (pc (pv 2) ah pU))
   (aw (aF (pv 2))))),?_⟩
 ac_rfl;refine .inl ⟨a,_,rfl,hA,λp hp=>?_⟩;rw[Jh];have s1:=ax hp (.lst (fs.map V.int));ac_rfl;refine⟨b,p,ls,fs,rfl,al.same s1 _ hB,ao.of aq,by omega,by omega,h9,ok,λv H2 s2 n2=>?_⟩;obtain⟨ta,rfl,ta0,ta1⟩:=ak.iif.mp n2;have s3:=s1.trans s2;obtain⟨x,r,hs⟩:∃ x r,fD ls fs=x::r:=by have:=j5 (ws:=fs) h9;cases e:fD ls fs with
  |nil=>rw[e]at this;simp at this|cons x r=>exact⟨x,r,rfl⟩
 rw[hs]at ta1;ac_rfl;refine bK (ao.of ta1) (v:=.int x) db ?_;ac_rfl;refine bK (s3.seq hA) (v:=.int c) db ?_;ac_rfl;refine nP ta1 N2 ?_;ac_rfl;have ta2:=s1.free ta0;refine q _ _ (λd o e=>?_) (ak.iif.mpr ⟨ta,rfl,ta2,?_⟩)
 ·rw[aC (cj e ta2)];exact s3 _ _ e
 ·rw[aq];unfold ck;rw[show(c::fs).tail=fs by rfl,hs];rfl
theorem D2{a3 a4:Q2}{v1 v2:V}{c:Cr}{Qy QI:Ry}(np:H p=none)(nd:H dx=none)(r1:al K H (bo c.Qg) v1)(r2:al K H (bo c.P7) v2)(h3:ao K H a3 Qy)(h4:ao K H a4 QI)(dr:kH H c.P9 Qy)(nr:R2 (λls x=>al K H (bo ls) x) c.P_ QI)(g:c.Nine)(q:∀ H1 f,ae H H1->dH (C 0) H1 p c f->(∀ b∈f,H b=none)->f.Nodup->Q .non H1):Q8 K C [.ref p,v1,v2,.ref a3,.ref a4] (upd (upd H dx (.own p)) p (.ins (C 0) dx [])) Q E:=by
 have sm:ae H (upd (upd H dx (.own p)) p (.ins (C 0) dx [])):=λb o e=>by rw[aC (cj e np),aC (cj e nd)];exact e
 have ld:=dr.1;have ln:=nr.1;have e1:=g.d;have e2:=g.n;have e3:=g.l;have e4:=g.o;refine⟨p,dx,v1,v2,.ref a3,.ref a4,c.Qg,c.P7,c.P9.map cT,c.P_,a3,a4,Qy,QI,rfl,aq,al.same sm _ r1,al.same sm _ r2,rfl,sm.seq h3,rfl,sm.seq h4,by omega,by omega,by rw[aT];omega,by omega,by rw[aT];exact ld,ln,λi d x q1 q2=>?_,λi ls x q1 q2=>?_,λH1 w1 w2 w3 w4 keep hp nw=>?_⟩
 ·rw[aM]at q1;obtain⟨d',hd',rfl⟩:=bV.mp q1;exact(dr.2 i d' x hd' q2).sq sm.sq
 ·exact⟨by have:=(g.o9 ls (cq q1)).1;omega,al.same sm _ (nr.2 i ls x q1 q2)⟩
 ·have s1:ae H H1:=λb o e=>keep b o (sm _ _ e) (cj e np);obtain⟨f,k1,k2,k3⟩:=nw;have pf:p∉f:=λz=>by have:=k3 p z;rw[aq]at this;cases this
  refine q H1 (p::f) s1 ⟨dx,w1,w2,w3,w4,f,rfl,hp,k1⟩ (λb hb=>?_) (OM.mpr ⟨pf,k2⟩);rcases Oe.mp hb with rfl|hb
  ·exact np
  ·exact sm.fr b (k3 b hb)
theorem Jg {a1 a2 a3 a4 b1 b2 b3 b4:V}(h:cU a1 a2 a3 a4=cU b1 b2 b3 b4):a1=b1/\a2=b2/\a3=b3/\a4=b4:=by
 nomatch ?_,?_,?_
 ·have:=jY a1 a2 a3 a4;rw[h,jY]at this;injection this with this;exact this.symm
 ·have:=kI a1 a2 a3 a4;rw[h,kI]at this;injection this with this;exact this.symm
 ·have:=iq a1 a2 a3 a4;rw[h,iq]at this;injection this with this;exact this.symm
 ·have:=lL a1 a2 a3 a4;rw[h,lL]at this;injection this with this;exact this.symm
inductive Qd (K:Fg)(C:Nat->Q2)(vs:Ry)(H:Hp)(Q:VK)(E:XK):Prop|mk (p:Q2) (c:Cr):vs=[.ref p]->iR K (C 0) H p c.Qg c.P7 c.P9 c.P_->c.Nine->(∀ q f H',ae H H'->dH (C 0) H' q c f->(∀ b∈f,H b=none)->f.Nodup->Q (.ref q) H')->Qd K C vs H Q E
variable (M_Craft:kZ P w K mg b8 "Craft" (C 0) ["self","needs","leaves","deeds","notes"] 2 (Q8 K C))
include B Z M_Craft in
theorem M7 (F:aN K "copied_craft" "copied_craft" yT f fd)(m:mg "copied_craft"=some (.ref f)):Fn P w K mg b8 "copied_craft" ["craft"] 4 (Qd K C):=by refine bQ F MS m λ_ _ _ _ H vs Q E hr h=>?_;obtain⟨p,c,rfl,hT,g,q⟩:=h;nomatch _,(aw (aF (vo M_Craft hr rfl (dD (jf K 0) (dD (jf K 0) (dD (jf K 0) (dD (jf K 0) ag)))))));obtain⟨⟨dx,w1,w2,w3,w4,hp,r1,r2,r3,r4⟩,dx',u1,u2,b3,u4,Qy,hp',hb3,hD⟩:=hT;have e:=hp;rw[hp']at e;injection e with e;injection e with _ e0 e;obtain⟨rfl,rfl,rfl,rfl⟩:=Jg e;unfold al at r4;obtain⟨b4,QI,rfl,q4,z4⟩:=r4;have z4l:=z4.length;nofun;exists p,(C 0),dx,_,_,rfl,hp,Z.Qn,Z.Qz,jY _ _ _ _;exists p,(C 0),dx,_,_,rfl,hp,Z.Qn,Z.QC,kI _ _ _ _;exists p,(C 0),dx,_,_,rfl,hp,Z.Qn,Z.Qt,iq _ _ _ _;exists p,(C 0),dx,_,_,rfl,hp,Z.Qn,Z.QD,lL _ _ _ _;intro y dy hy hdy ndy;refine D2 (c:=c) hy hdy r1 r2 (ao.of hb3) q4 hD ⟨by simpa using z4l,λi ls x e1 e2=>?_⟩ g λH1 f s1 hC hf fn=>⟨rfl,q y f H1 s1 hC hf fn⟩;obtain⟨d,hd,hrx⟩:=au.get' z4 e2;rw[aM,e1]at hd;cases hd;exact hrx
def g6 (P9:List Dd)(i:Nat):Bool:=match P9[i]? with|some d=>(fR d).isSome|none=>false
noncomputable def lA (P9:List Dd) (i:Nat):D:=match P9[i]? with|some d=>.int ((fR d).getD 0)|none=>.int 0
theorem EB:∀(P9:List Dd),((RD P9.length).filter (g6 P9)).map (lA P9)=(cK P9).map D.int
 |[]=>rfl|d::ds=>by
  have ih:=EB ds;have f:(Sa Nat.succ (RD ds.length)).filter (g6 (d::ds))=((RD ds.length).filter (g6 ds)).map Nat.succ:=by rw[List.filter_map];rfl
  have g:(((RD ds.length).filter (g6 ds)).map Nat.succ).map (lA (d::ds))=(cK ds).map D.int:=by rw[OZ,<-ih];rfl
  rw[OC,List.range_succ_eq_map,Pc,f];unfold cK at g ⊢;cases e:fR d with
  |none=>rw[show g6 (d::ds) 0=false by unfold g6;simp[e],Oh (by decide),Pb,e];exact g|some m=>rw[show g6 (d::ds) 0=true by unfold g6;simp[e],Ol rfl,Pb,e,bX,bX,g,show lA (d::ds) 0=.int m by unfold lA;simp[e]]
theorem Jp (P9:List Dd)(n:Nat)(h:n=P9.length):((RD n).filter (g6 P9)).map (lA P9)=(cK P9).map D.int:=by subst h;exact EB P9
inductive Qf (K:Fg)(C:Nat->Q2)(vs:Ry)(H:Hp)(Q:VK)(E:XK):Prop|mk (p:Q2) (dx b3:Q2) (w1 w2 w4:V) (Qy:Ry) (P9:List Dd):vs=[.ref p]->H p=some (.ins (C 0) dx (cU w1 w2 (.ref b3) w4))->H b3=some (.lst Qy)->kH H P9 Qy->P9.length<=1000->(∀ v H',ae H H'->ak H H' (nums (cK P9)) v->Q v H')->Qf K C vs H Q E
include B Z in
theorem Ml (F:aN K "called_by" "called_by" ux f fd)(m:mg "called_by"=some (.ref f)):Fn P w K mg b8 "called_by" ["craft"] 1 (Qf K C):=by
 refine bQ F L5 m λ_ _ _ _ H vs Q E hr h=>?_;obtain⟨p,dx,b3,w1,w2,w4,Qy,P9,rfl,hp,hb3,hD,hl,q⟩:=h;nomatch _,(aw (aF (CJ rfl (bB.m (sc0:=aI ux) (N:=["craft"]) (N':=["craft","deed"]) (ms:=[false,true])) (c_ K (jf K 0)) (λ_ _ _ _ _=>(C5 (i:=1) (N1 (N:=["craft","deed"])) rfl (Or.inl rfl))) (λ_ _ _ _ _=>(JA (jt K hr (jx K (pv 1) ah) bJ))) (λ_ _ _ _ _=>(jx K (pv 1) ah)))));have ld:=hD.1;ac_rfl;nomatch p,(C 0),dx,_,_,rfl,hp,Z.Qn,Z.Qt,iq _ _ _ _;nomatch b3,rfl,⟨_,ao.of hb3⟩;refine J0 (dO (ao.of hb3)) (g6 P9) (lA P9) (br (by omega)) (λi x H1 R1 R2' hi s1 hx hy hn=>?_) (λv H1 s1 n1=>?_)
 ·have hi':i<P9.length:=by omega
  have drx:=(hD.2 i P9[i] x (by simp) hx).sq s1.sq;have ek:g6 P9 i=(fR P9[i]).isSome:=by unfold g6;simp[hi']
  have en:lA P9 i=.int ((fR P9[i]).getD 0):=by unfold lA;simp[hi']
  generalize P9[i]=d at drx ek en;obtain⟨t,xs,rfl,ht⟩:=tG drx;nofun;refine aP (aB.of ht) db ?_;nofun;have ew:decide (dM d="call")=g6 P9 i:=by rw[ek];cases d<;>first|rfl|(unfold dM fR;decide+kernel)
  rw[ew];cases hk:g6 P9 i with
  |false=>rw[Oh (by decide)];exact hn hk _ (ae.refl _)|true=>rw[Ol rfl];rw[hk]at ek;cases d with
   |call m g0 g1 t0 t1=>obtain⟨t',ys,et,hT2,px⟩:=fQ drx;cases et;obtain⟨x0,r,rfl,e0,px⟩:=bR px;obtain⟨x1,r,rfl,e1,px⟩:=bR px;cases eY e1;nofun;refine aP (aB.of hT2) (v:=.int m) (bi (j:=1) rfl) ?_;refine hy hk _ _ (ae.refl _) ?_;rw[en];exact ak.int|_=>cases ek
 ·ac_rfl;rw[Jp P9 _ ld.symm]at n1;exact q _ _ s1 n1
inductive uR (K:Fg)(vs:Ry)(H:Hp)(Q:VK)(E:XK):Prop|mk (a b c:Int):vs=[.int a,.int b,.int c]->Q (.bl (decide (a<=b)&&decide (b<=c))) H->uR K vs H Q E
theorem mF{a b:Int}(q:Q (.bl (decide (a<=b)&&decide (b<=c))) H):uR K [.int a,.int b,.int c] H Q E:=⟨a,b,c,rfl,q⟩
include B Z in
theorem K9 (F:aN K "between" "between" xr f fd)(m:mg "between"=some (.ref f)):Fn P w K mg b8 "between" ["low","number","high"] 1 (uR K):=by refine bQ F K_ m λ_ _ _ _ H vs Q E hr h=>?_;obtain⟨a,b,c,rfl,q⟩:=h;nomatch _,(aw (aF (tV jD jD (pv 0) (pv 1) (pv 2))));ac_rfl;cases h:decide (a<=b)with
 |false=>rw[h]at q;ac_rfl;exact q|true=>rw[h]at q;ac_rfl;exact q
def yZ (K:Fg):Sp:=λvs H Q _=>∃ n:Int,vs=[.int n]/\Q (.bl (gb n)) H
theorem we(q:Q (.bl (gb n)) H):yZ K [.int n] H Q E:=⟨n,rfl,q⟩
variable (Q27:Fn P w K mg b8 "between" ["low","number","high"] 1 (uR K))
include B Z Q27 in
theorem M6 (F:aN K "small_enough" "small_enough" yS f fd)(m:mg "small_enough"=some (.ref f)):Fn P w K mg b8 "small_enough" ["number"] 2 (yZ K):=by refine bQ F MR m λ_ _ _ _ H vs Q E hr h=>?_;obtain⟨n,rfl,q⟩:=h;nomatch _,(aw (aF (jl Q27 hr (iE (dG dL (dP rfl B.QR)) (jn 0 (dU (dP rfl B.QR) ag))))));ac_rfl;refine mF ?_;exact q
inductive Bd (K:Fg)(vs:Ry)(H:Hp)(Q:VK)(E:XK):Prop|mk (a t:Q2) (l:Rv) (spots:List Nat):vs=[.ref a,.ref t]->ao K H a (l.map V.int)->aB K H t (spots.map λ(s:Nat)=>V.int (s:Int))->l.length=9->spots.length<=9->(∀ s∈spots,s<9)->(∀ H',ae H H'->Q (.bl (cO spots l)) H')->Bd K vs H Q E
variable (Q25:Fn P w K mg b8 "small_enough" ["number"] 2 (yZ K))
include B Z Q25 in
theorem MC (F:aN K "line_right" "line_right" yC f fd)(m:mg "line_right"=some (.ref f)):Fn P w K mg b8 "line_right" ["line","nought_spots"] 3 (Bd K):=by
 refine bQ F uC m λ_ _ _ _ H vs Q E hr h=>?_;obtain⟨a,t,l,spots,rfl,hA,hT,l9,ls9,hs,q⟩:=h;refine⟨_,(av (js 2 uC.nd (b9 (kj K rfl) rfl B.all L2.kK (iH (jC (bB.f uC ["line","nought_spots","small","number"] [false,false,false,true]) (c_ K (pv 0)) (λn=>(jg 3 n)) (jl Q25 hr (jn 3 ag))) ag)))
   (aw (aF (dY (pv 2) (eR (b9 (kj K rfl) rfl B.all L2.kK (iH (jC (bB.f uC ["line","nought_spots","small","spot"] [false,false,false,true]) (pd K (pv 1)) (λn=>(jg 3 n)) (jE K hr (jx K (pv 0) (pv 3)) ah)) ag))))))),?_⟩
 unfold cO at q;ac_rfl;nomatch a,rfl,⟨_,hA⟩;refine cG (dO hA) ((l.map gb).map D.bl) (by simp) (br (by simp;omega)) (λk x d H1 R hk hd s1 hx hR=>?_) (λv H1 s1 n1=>?_)
 ·rw[aM]at hx;obtain⟨y,hy,rfl⟩:=bV.mp hx;rw[aM,aM,hy]at hd;cases hd;ac_rfl;refine we ?_;exact hR _ _ (ae.refl _) ak.bl
 obtain⟨la,rfl,la0,la1⟩:=ak.bls n1;ac_rfl;refine km (ao.of la1) ?_;ac_rfl;refine fZ (λe=>?_) (λe=>by have q1:=q _ s1;rw[e]at q1;exact q1);rw[e,OG]at q;ac_rfl;nomatch t,rfl,⟨_,s1.tup hT⟩;refine cG (pN (s1.tup hT)) ((spots.map λs=>decide (l.getD s 0=0)).map D.bl) (by simp) (br (by simp;omega)) (λk x d H2 R hk hd s2 hx hR=>?_) (λv H2 s2 n2=>?_)
 ·rw[aM]at hx;obtain⟨sp,hsp,rfl⟩:=bV.mp hx;rw[aM,aM,hsp]at hd;cases hd;have sl:sp<l.length:=by have:=hs sp (cq hsp);omega
  ac_rfl;refine bK ((s1.trans s2).seq hA) (v:=.int (l.getD sp 0)) (bi (by simp[sl])) ?_;ac_rfl;exact hR _ _ (ae.refl _) ak.bl
 obtain⟨lb,rfl,lb0,lb1⟩:=ak.bls n2;ac_rfl;refine km (ao.of lb1) ?_;exact q _ (s1.trans s2)
inductive Be (K:Fg)(vs:Ry)(H:Hp)(Q:VK)(E:XK):Prop|mk (a t:Q2) (ls:Rw) (spots:List Nat):vs=[.ref a,.ref t]->al K H (bo ls) (.ref a)->aB K H t (spots.map λ(s:Nat)=>V.int (s:Int))->ls.length<=1000->(∀ l∈ls,l.length=9)->spots.length<=9->(∀ s∈spots,s<9)->(∀ H',ae H H'->Q (.bl (gy spots ls)) H')->Be K vs H Q E
variable (Q1b:Fn P w K mg b8 "line_right" ["line","nought_spots"] 3 (Bd K))
include B Z Q1b in
theorem MT (F:aN K "lines_right" "lines_right" yp f fd)(m:mg "lines_right"=some (.ref f)):Fn P w K mg b8 "lines_right" ["lines","nought_spots"] 4 (Be K):=by
 refine bQ F Fk m λ_ _ _ _ H vs Q E hr h=>?_;obtain⟨a,t,ls,spots,rfl,hA,hT,l1000,h9,ls9,hs,q⟩:=h;nomatch _,(aw (aF (dY (jv jD (b9 (dw K) rfl B.len L2.boot_len (jn 0 ag)) (dP rfl B.Rb)) (eR (b9 (kj K rfl) rfl B.all L2.kK (iH (jC (bB.f Fk ["lines","nought_spots","line"] [false,false,true]) (c_ K (pv 0)) (λn=>(jg 2 n)) (jl Q1b hr (jn 2 (jn 1 ag)))) ag))))));unfold bo al at hA;obtain⟨a',xs,e,hA,hx⟩:=hA;cases e;have lx:=hx.length;rw[aT]at lx;unfold gy at q;ac_rfl;refine dF (.inl hA) ?_;ac_rfl;rw[<-lx];refine fZ (λe=>?_) (λe=>by have q1:=q _ (ae.refl _);rw[e]at q1;exact q1);rw[e,OG]at q;ac_rfl;nomatch a,rfl,⟨_,hA⟩;refine cG (dO hA) ((ls.map (cO spots)).map D.bl) (by simp;omega) (br (by omega)) (λk x d H1 R hk hd s1 hx' hR=>?_) (λv H1 s1 n1=>?_)
 ·obtain⟨d2,hd2,hrx⟩:=au.get' hx hx';rw[aM]at hd2;obtain⟨l,hl,rfl⟩:=bV.mp hd2;rw[aM,aM,hl]at hd;cases hd;obtain⟨xa,rfl,hxa⟩:=fO.mp (al.same s1 _ hrx);ac_rfl;refine⟨xa,t,l,spots,rfl,hxa,s1.tup hT,h9 l (cq hl),ls9,hs,λH2 s2=>?_⟩;exact hR _ _ s2 ak.bl
 obtain⟨la,rfl,la0,la1⟩:=ak.bls n1;ac_rfl;refine km (ao.of la1) ?_;exact q _ s1
inductive Bi (K:Fg)(C:Nat->Q2)(vs:Ry)(H:Hp)(Q:VK)(E:XK):Prop|mk (p:Q2) (Qg P7:Rw) (ds:List D) (P_:Rx):vs=[.ref p]->eZ K (C 0) H p Qg P7 ds P_->Qg.length<=1000->P7.length<=1000->(∀ l∈Qg,l.length=9)->(∀ l∈P7,l.length=9)->(∀ H',ae H H'->Q (.bl (iT Qg P7)) H')->Bi K C vs H Q E
variable (Q19:Fn P w K mg b8 "lines_right" ["lines","nought_spots"] 4 (Be K))
include B Z Q19 in
theorem MB (F:aN K "oath_right" "oath_right" yD f fd)(m:mg "oath_right"=some (.ref f)):Fn P w K mg b8 "oath_right" ["craft"] 5 (Bi K C):=by
 refine bQ F E8 m λ_ _ _ _ H vs Q E hr h=>?_;obtain⟨p,Qg,P7,ds,P_,rfl,hC,ln,ll,h9n,h9l,q⟩:=h;obtain⟨gl,g_LEFT_SPOTS,hL⟩:=B.QO;obtain⟨gh,g_HAND_SPOTS,hH⟩:=B.Q_;have sp9:∀ s∈([1,2,3,4,7,8]:List Nat),s<9:=by decide
 have sp4:∀ s∈([1,2,3,4]:List Nat),s<9:=by decide
 refine⟨_,(av (js 1 E8.nd (jl Q19 hr (dD (jf K 0) (bw (jp K (jT rfl g_HAND_SPOTS) (jT rfl g_LEFT_SPOTS)) ag))))
   (aw (aF (dY (pv 1) (eR (jl Q19 hr (dD (jf K 0) (dU (jT rfl g_HAND_SPOTS) ag)))))))),?_⟩
 obtain⟨dx,w1,w2,w3,w4,hp,r1,r2,r3,r4⟩:=hC;obtain⟨b1,rfl⟩:∃ b,w1=.ref b:=by unfold bo al at r1;obtain⟨a,_,e,_⟩:=r1;exact⟨a,e⟩
 obtain⟨b2,rfl⟩:∃ b,w2=.ref b:=by unfold bo al at r2;obtain⟨a,_,e,_⟩:=r2;exact⟨a,e⟩
 unfold iT at q;ac_rfl;nomatch p,(C 0),dx,_,_,rfl,hp,Z.Qn,Z.Qz,jY _ _ _ _;ac_rfl;refine GA (hH _) (hL _) (by simp) (by simp) ((by right)) λt t0=>?_;have s0:=ax t0 (.tup ([V.int 1,.int 2,.int 3,.int 4]++[V.int 7,.int 8]));ac_rfl;refine⟨b1,t,Qg,[1,2,3,4,7,8],rfl,al.same s0 _ r1,.inl (.inl aq),ln,h9n,by decide,sp9,λH1 s1=>?_⟩;have s2:=s0.trans s1;ac_rfl;refine fZ (λe=>?_) (λe=>by have q1:=q _ s2;rw[e]at q1;exact q1);rw[e,OG]at q;ac_rfl;nomatch p,(C 0),dx,_,_,rfl,s2 _ _ hp,Z.Qn,Z.QC,kI _ _ _ _;ac_rfl;exact⟨b2,gh,P7,[1,2,3,4],rfl,al.same s2 _ r2,hH _,ll,h9l,by decide,sp4,λH3 s3=>q _ (s2.trans s3)⟩
def zk (K:Fg):Sp:=λvs H Q _=>∃ n:Int,vs=[.int n]/\Q (.bl (b5 n)) H
theorem tm(q:Q (.bl (b5 n)) H):zk K [.int n] H Q E:=⟨n,rfl,q⟩
include B Z Q27 in
theorem MA (F:aN K "hand_right" "hand_right" yz f fd)(m:mg "hand_right"=some (.ref f)):Fn P w K mg b8 "hand_right" ["hand"] 2 (zk K):=by refine bQ F MD m λ_ _ _ _ H vs Q E hr h=>?_;obtain⟨n,rfl,q⟩:=h;nomatch _,(aw (aF (jl Q27 hr (jk (jn 0 (dU (dP rfl B.Re) ag))))));ac_rfl;refine mF ?_;exact q
inductive A_ (K:Fg)(vs:Ry)(H:Hp)(Q:VK)(E:XK):Prop|mk (a:Q2) (i j:Int):vs=[.ref a]->aB K H a [.int i,.int j]->(∀ H',ae H H'->Q (.bl ([b5 i,b5 j].all id)) H')->A_ K vs H Q E
variable (Q24:Fn P w K mg b8 "hand_right" ["hand"] 2 (zk K))
include B Z Q24 in
theorem NB (F:aN K "two_hands_right" "two_hands_right" yY f fd)(m:mg "two_hands_right"=some (.ref f)):Fn P w K mg b8 "two_hands_right" ["hands"] 3 (A_ K):=by
 refine bQ F Fq m λ_ _ _ _ H vs Q E hr h=>?_;obtain⟨a,i,j,rfl,hA,q⟩:=h;nomatch _,(aw (aF (dY (jE K hr (b9 (dw K) rfl B.len L2.boot_len (jn 0 ag)) ah) (eR (b9 (kj K rfl) rfl B.all L2.kK (iH (jC (bB.f Fq ["hands","hand"] [false,true]) (pd K (pv 0)) (λn=>(jg 1 n)) (jl Q24 hr (jn 1 ag))) ag))))));ac_rfl;refine dF (.inr hA) ?_;ac_rfl;rw[show decide ((([V.int i,.int j].length:Nat):Int)=2)=true from rfl];ac_rfl;nomatch a,rfl,⟨_,hA⟩;refine cG (pN hA) ([b5 i,b5 j].map D.bl) rfl ((by right)) (λk x d H1 R hk hd s1 hx hR=>?_) (λv H1 s1 n1=>?_)
 ·have hx':([i,j].map V.int)[k]?=some x:=hx;have hd':([i,j].map λz=>D.bl (b5 z))[k]?=some d:=hd;rw[aM]at hx' hd';obtain⟨y,hy,rfl⟩:=bV.mp hx';rw[hy]at hd';cases hd';ac_rfl;refine tm ?_;exact hR _ _ (ae.refl _) ak.bl
 obtain⟨la,rfl,la0,la1⟩:=ak.bls n1;ac_rfl;refine km (ao.of la1) ?_;exact q _ s1
inductive Ba (K:Fg)(vs:Ry)(H:Hp)(Q:VK)(E:XK):Prop|mk (m:Int) (a b:Q2) (g0 g1 t0 t1:Int):vs=[.int m,.ref a,.ref b]->aB K H a [.int g0,.int g1]->aB K H b [.int t0,.int t1]->(∀ H',ae H H'->Q (.bl (([b5 g0,b5 g1].all id&&[b5 t0,b5 t1].all id)&&(cb 0 m 99&&!decide (t0=t1)))) H')->Ba K vs H Q E
include B Z Q27 in
theorem Mz (Q23:Fn P w K mg b8 "two_hands_right" ["hands"] 3 (A_ K))(F:aN K "call_right" "call_right" yA f fd)(m:mg "call_right"=some (.ref f)):Fn P w K mg b8 "call_right" ["number","given","taken"] 4 (Ba K):=by
 refine bQ F E1 m λ_ _ _ _ H vs Q E hr h=>?_;obtain⟨m,a,b,g0,g1,t0,t1,rfl,hA,hB,q⟩:=h;refine⟨_,(av (js 3 E1.nd (dY (jl Q23 hr (jn 1 ag)) (eR (jl Q23 hr (jn 2 ag)))))
   (aw (aF (dY (pv 3) (dY (jl Q27 hr (jk (jn 0 (dU (dP rfl B.QU) ag)))) (eR (jv (iz K hr) (jx K (pv 2) ah) (jx K (pv 2) ah)))))))),?_⟩
 generalize eg:[b5 g0,b5 g1].all id=bg at q;generalize et:[b5 t0,b5 t1].all id=bt at q;ac_rfl;refine⟨a,g0,g1,rfl,hA,λH1 s1=>?_⟩;rw[eg];refine ik (λe=>?_) (λe=>?_)
 ·subst e;ac_rfl;refine⟨b,t0,t1,rfl,s1.tup hB,λH2 s2=>?_⟩;rw[et];ac_rfl;have s3:=s1.trans s2;rw[OG]at q;refine fZ (λe=>?_) (λe=>by have q1:=q _ s3;rw[e]at q1;exact q1);rw[e,OG]at q;ac_rfl;refine mF ?_;refine ik (λe=>?_) (λe=>by have q1:=q _ s3;unfold cb at q1;rw[e]at q1;exact q1);unfold cb at q;rw[e,OG]at q;ac_rfl;refine aP (s3.tup hB) (v:=.int t0) rfl ?_;ac_rfl;refine aP (s3.tup hB) (v:=.int t1) rfl ?_;ac_rfl;exact q _ s3
 ·subst e;ac_rfl;exact q _ s1
inductive Bb (K:Fg)(vs:Ry)(H:Hp)(Q:VK)(E:XK):Prop|mk (lo hi:Int):vs=[.int lo,.int hi]->Q (.bl (gb lo&&(gb hi&&decide (lo<=hi)))) H->Bb K vs H Q E
include B Z Q25 in
theorem Nj (F:aN K "range_right" "range_right" yo f fd)(m:mg "range_right"=some (.ref f)):Fn P w K mg b8 "range_right" ["low","high"] 3 (Bb K):=by refine bQ F MV m λ_ _ _ _ H vs Q E hr h=>?_;obtain⟨lo,hi,rfl,q⟩:=h;nomatch _,(aw (aF (dY (jl Q25 hr (jn 0 ag)) (dY (jl Q25 hr (jn 1 ag)) (eR (jv jD (pv 0) (pv 1)))))));ac_rfl;refine we ?_;refine ik (λe=>?_) (λe=>by rw[e]at q;exact q);rw[e,OG]at q;ac_rfl;refine we ?_;refine ik (λe=>?_) (λe=>by rw[e]at q;exact q);rw[e,OG]at q;ac_rfl;exact q
inductive Bc (K:Fg)(vs:Ry)(H:Hp)(Q:VK)(E:XK):Prop|mk (v:V) (n:Int) (d:Dd):vs=[v,.int n]->al K H (cT d) v->eU d->(∀ H',ae H H'->Q (.bl (bI n d)) H')->Bc K vs H Q E
variable {d:D}
theorem eG{ds:List D}(h:au K H (d::ds) xs):∃ v r,xs=v::r/\al K H d v/\au K H ds r:=by unfold au at h;exact h
theorem mB(h:au K H [] xs):xs=[]:=by unfold au at h;exact h
theorem jW(h:al K H (.int i) v):v=.int i:=by unfold al at h;exact h
theorem oo{i:Str}(h:al K H (.str i) v):v=.str i:=by unfold al at h;exact h
theorem DB{j:Int}(h:al K H (.tup [.int i,.int j]) v):∃ a,v=.ref a/\aB K H a [.int i,.int j]:=by obtain⟨a,xs,rfl,h1,h2⟩:=mx h;obtain⟨v1,r1,rfl,e1,h2⟩:=eG h2;obtain⟨v2,r2,rfl,e2,h2⟩:=eG h2;cases mB h2;cases jW e1;cases jW e2;exact⟨a,rfl,h1⟩
theorem GQ:decide (("part":Str)="set")=false:=by decide+kernel
theorem Cv:decide (("draw":Str)="set")=false/\decide (("draw":Str)="part")=false:=by decide+kernel
theorem wd:decide (("turn":Str)="set")=false/\decide (("turn":Str)="part")=false/\decide (("turn":Str)="draw")=false:=by decide+kernel
theorem tz:decide (("hold":Str)="set")=false/\decide (("hold":Str)="part")=false/\decide (("hold":Str)="draw")=false/\decide (("hold":Str)="turn")=false:=by decide+kernel
theorem pF:decide (("call":Str)="set")=false/\decide (("call":Str)="part")=false/\decide (("call":Str)="draw")=false/\decide (("call":Str)="turn")=false/\decide (("call":Str)="hold")=false:=by decide+kernel
include B Z Q27 Q1b Q24 in
theorem Mx (Q21:Fn P w K mg b8 "call_right" ["number","given","taken"] 4 (Ba K))(Q1f:Fn P w K mg b8 "range_right" ["low","high"] 3 (Bb K))(F:aN K "deed_right" "deed_right" yB f fd)(m:mg "deed_right"=some (.ref f)):Fn P w K mg b8 "deed_right" ["deed","last_place"] 5 (Bc K):=by
 refine bQ F E2 m λ_ _ _ _ H vs Q E hr h=>?_;obtain⟨v,n,d,rfl,hR,h9,q⟩:=h;obtain⟨gl,g_LEFT_SPOTS,hL⟩:=B.QO;refine⟨_,(av (js 2 E2.nd (jx K (pv 0) ah))
   (av (bb (jt K hr (pv 2) bJ) (aw (aF (dY (jl Q24 hr (bc (jx K (pv 0) ah) ag)) (eR (jl Q1b hr (bc (jx K (pv 0) ah) (dU (jT rfl g_LEFT_SPOTS) ag))))))) bp)
   (av (bb (jt K hr (pv 2) bJ) (aw (aF (dY (jl Q24 hr (bc (jx K (pv 0) ah) ag)) (dY (jl Q1b hr (bc (jx K (pv 0) ah) (dU (jT rfl g_LEFT_SPOTS) ag))) (eR (jl Q27 hr (jk (bc (jx K (pv 0) ah) (dU (dP rfl B.QV) ag))))))))) bp)
   (av (bb (jt K hr (pv 2) bJ) (aw (aF (dY (jl Q24 hr (bc (jx K (pv 0) ah) ag)) (eR (jl Q1f hr (bc (jx K (pv 0) ah) (bc (jx K (pv 0) ah) ag))))))) bp)
   (av (bb (jt K hr (pv 2) bJ) (aw (aF (dY (jl Q1b hr (bc (jx K (pv 0) ah) (dU (jT rfl g_LEFT_SPOTS) ag))) (eR (jl Q27 hr (jk (bc (jx K (pv 0) ah) (jn 1 ag)))))))) bp)
   (av (bb (jt K hr (pv 2) bJ) (aw (aF (jl Q1b hr (bc (jx K (pv 0) ah) (dU (jT rfl g_LEFT_SPOTS) ag))))) bp)
   (aw (aF (jl Q21 hr (bc (jx K (pv 0) ah) (bc (jx K (pv 0) ah) (bc (jx K (pv 0) ah) ag)))))))))))),?_⟩
 have sp9:∀ s∈([7,8]:List Nat),s<9:=by decide
 cases d with
 |set hd l=>refine fe λG kG=>?_;obtain⟨a,xs,rfl,hA,hx⟩:=mx hR;obtain⟨v1,r1,rfl,e1,hx⟩:=eG hx;obtain⟨v2,r2,rfl,e2,hx⟩:=eG hx;obtain⟨v3,r3,rfl,e3,hx⟩:=eG hx;cases mB hx;cases oo e1;cases jW e2;obtain⟨la,rfl,QF⟩:=fO.mp e3;refine kG ?_;ac_rfl;refine aP hA (v:=.str "set") rfl ?_;ac_rfl;rw[Og rfl];ac_rfl;refine aP hA (v:=.int hd) rfl ?_;ac_rfl;refine tm ?_;show ∃ c,V.bl (b5 hd)=.bl c/\_;simp only[bI]at q;refine ik (λe=>?_) (λe=>by have q1:=q _ (ae.refl _);rw[e]at q1;exact q1);rw[e,OG]at q;ac_rfl;refine aP hA (v:=.ref la) rfl ?_;ac_rfl;exact⟨la,gl,l,[7,8],rfl,QF,hL _,h9,by decide,sp9,λH1 s1=>q _ s1⟩|part hd l b=>refine fe λG kG=>?_;obtain⟨a,xs,rfl,hA,hx⟩:=mx hR;obtain⟨v1,r1,rfl,e1,hx⟩:=eG hx;obtain⟨v2,r2,rfl,e2,hx⟩:=eG hx;obtain⟨v3,r3,rfl,e3,hx⟩:=eG hx;obtain⟨v4,r4,rfl,e4,hx⟩:=eG hx;cases mB hx;cases oo e1;cases jW e2;cases jW e4;obtain⟨la,rfl,QF⟩:=fO.mp e3;refine kG ?_;ac_rfl;refine aP hA (v:=.str "part") rfl ?_;ac_rfl;rw[GQ];ac_rfl;rw[Og rfl];ac_rfl;refine aP hA (v:=.int hd) rfl ?_;ac_rfl;refine tm ?_;show ∃ c,V.bl (b5 hd)=.bl c/\_;simp only[bI]at q;refine ik (λe=>?_) (λe=>by have q1:=q _ (ae.refl _);rw[e]at q1;exact q1);rw[e,OG]at q;ac_rfl;refine aP hA (v:=.ref la) rfl ?_;ac_rfl;refine⟨la,gl,l,[7,8],rfl,QF,hL _,h9,by decide,sp9,λH1 s1=>?_⟩;refine ik (λe=>?_) (λe=>by have q1:=q _ s1;rw[e]at q1;exact q1);rw[e,OG]at q;ac_rfl;refine aP (s1.tup hA) (v:=.int b) rfl ?_;ac_rfl;refine mF ?_;exact q _ s1|draw hd lo hi=>refine fe λG kG=>?_;obtain⟨a,xs,rfl,hA,hx⟩:=mx hR;obtain⟨v1,r1,rfl,e1,hx⟩:=eG hx;obtain⟨v2,r2,rfl,e2,hx⟩:=eG hx;obtain⟨v3,r3,rfl,e3,hx⟩:=eG hx;obtain⟨v4,r4,rfl,e4,hx⟩:=eG hx;cases mB hx;cases oo e1;cases jW e2;cases jW e3;cases jW e4;refine kG ?_;ac_rfl;refine aP hA (v:=.str "draw") rfl ?_;ac_rfl;rw[Cv.1];ac_rfl;rw[Cv.2];ac_rfl;rw[Og rfl];ac_rfl;refine aP hA (v:=.int hd) rfl ?_;ac_rfl;refine tm ?_;show ∃ c,V.bl (b5 hd)=.bl c/\_;simp only[bI]at q;refine ik (λe=>?_) (λe=>by have q1:=q _ (ae.refl _);rw[e]at q1;exact q1);rw[e,OG]at q;ac_rfl;refine aP hA (v:=.int lo) rfl ?_;ac_rfl;refine aP hA (v:=.int hi) rfl ?_;ac_rfl;exact⟨lo,hi,rfl,q _ (ae.refl _)⟩|turn l p=>refine fe λG kG=>?_;obtain⟨a,xs,rfl,hA,hx⟩:=mx hR;obtain⟨v1,r1,rfl,e1,hx⟩:=eG hx;obtain⟨v2,r2,rfl,e2,hx⟩:=eG hx;obtain⟨v3,r3,rfl,e3,hx⟩:=eG hx;cases mB hx;cases oo e1;cases jW e3;obtain⟨la,rfl,QF⟩:=fO.mp e2;refine kG ?_;ac_rfl;refine aP hA (v:=.str "turn") rfl ?_;ac_rfl;rw[wd.1];ac_rfl;rw[wd.2.1];ac_rfl;rw[wd.2.2];ac_rfl;rw[Og rfl];ac_rfl;refine aP hA (v:=.ref la) rfl ?_;ac_rfl;simp only[bI]at q;refine⟨la,gl,l,[7,8],rfl,QF,hL _,h9,by decide,sp9,λH1 s1=>?_⟩;refine ik (λe=>?_) (λe=>by have q1:=q _ s1;rw[e]at q1;exact q1);rw[e,OG]at q;ac_rfl;refine aP (s1.tup hA) (v:=.int p) rfl ?_;ac_rfl;refine mF ?_;exact q _ s1|hold l=>refine fe λG kG=>?_;obtain⟨a,xs,rfl,hA,hx⟩:=mx hR;obtain⟨v1,r1,rfl,e1,hx⟩:=eG hx;obtain⟨v2,r2,rfl,e2,hx⟩:=eG hx;cases mB hx;cases oo e1;obtain⟨la,rfl,QF⟩:=fO.mp e2;refine kG ?_;ac_rfl;refine aP hA (v:=.str "hold") rfl ?_;ac_rfl;rw[tz.1];ac_rfl;rw[tz.2.1];ac_rfl;rw[tz.2.2.1];ac_rfl;rw[tz.2.2.2];ac_rfl;rw[Og rfl];ac_rfl;refine aP hA (v:=.ref la) rfl ?_;ac_rfl;exact⟨la,gl,l,[7,8],rfl,QF,hL _,h9,by decide,sp9,λH1 s1=>q _ s1⟩|call m g0 g1 t0 t1=>refine fe λG kG=>?_;obtain⟨a,xs,rfl,hA,hx⟩:=mx hR;obtain⟨v1,r1,rfl,e1,hx⟩:=eG hx;obtain⟨v2,r2,rfl,e2,hx⟩:=eG hx;obtain⟨v3,r3,rfl,e3,hx⟩:=eG hx;obtain⟨v4,r4,rfl,e4,hx⟩:=eG hx;cases mB hx;cases oo e1;cases jW e2;obtain⟨ga,rfl,hga⟩:=DB e3;obtain⟨ta,rfl,hta⟩:=DB e4;refine kG ?_;ac_rfl;refine aP hA (v:=.str "call") rfl ?_;ac_rfl;rw[pF.1];ac_rfl;rw[pF.2.1];ac_rfl;rw[pF.2.2.1];ac_rfl;rw[pF.2.2.2.1];ac_rfl;rw[pF.2.2.2.2];ac_rfl;refine aP hA (v:=.int m) rfl ?_;ac_rfl;refine aP hA (v:=.ref ga) rfl ?_;ac_rfl;refine aP hA (v:=.ref ta) rfl ?_;ac_rfl;exact⟨m,ga,ta,g0,g1,t0,t1,rfl,hga,hta,λH1 s1=>q _ s1⟩
inductive Bg (K:Fg)(vs:Ry)(H:Hp)(Q:VK)(E:XK):Prop|mk (a:Q2) (ds:List Dd):vs=[.ref a]->al K H (.lst (ds.map cT)) (.ref a)->ds.length<=1000->(∀ d∈ds,eU d)->(∀ H',ae H H'->Q (.bl (lH ds)) H')->Bg K vs H Q E
include B Z Q27 in
theorem Ni (Q1d:Fn P w K mg b8 "deed_right" ["deed","last_place"] 5 (Bc K))(F:aN K "deeds_right" "deeds_right" yr f fd)(m:mg "deeds_right"=some (.ref f)):Fn P w K mg b8 "deeds_right" ["deeds"] 6 (Bg K):=by
 refine bQ F yK m λ_ _ _ _ H vs Q E hr h=>?_;obtain⟨a,ds,rfl,hA,l1000,h9,q⟩:=h;refine⟨_,(av (js 1 yK.nd (b9 (dw K) rfl B.len L2.boot_len (jn 0 ag)))
   (aw (aF (dY (jl Q27 hr (jk (jn 1 (dU (dP rfl B.Rc) ag)))) (eR (b9 (kj K rfl) rfl B.all L2.kK (iH (jC (bB.f yK ["deeds","count","deed"] [false,false,true]) (c_ K (pv 0)) (λn=>(jg 2 n)) (jl Q1d hr (jn 2 (jn 1 ag)))) ag))))))),?_⟩
 unfold al at hA;obtain⟨a',xs,e,hA,hx⟩:=hA;cases e;have lx:=hx.length;rw[aT]at lx;unfold lH cb at q;ac_rfl;refine dF (.inl hA) ?_;rw[<-lx];ac_rfl;refine mF ?_;refine ik (λe=>?_) (λe=>by have q1:=q _ (ae.refl _);rw[e]at q1;exact q1);rw[e,OG]at q;ac_rfl;nomatch a,rfl,⟨_,hA⟩;refine cG (dO hA) ((ds.map (bI (ds.length:Int))).map D.bl) (by simp;omega) (br (by omega)) (λk x d H1 R hk hd s1 hx' hR=>?_) (λv H1 s1 n1=>?_)
 ·obtain⟨d2,hd2,hrx⟩:=au.get' hx hx';rw[aM]at hd2;obtain⟨l,hl,rfl⟩:=bV.mp hd2;rw[aM,aM,hl]at hd;cases hd;ac_rfl;refine⟨_,_,l,rfl,al.same s1 _ hrx,h9 l (cq hl),λH2 s2=>?_⟩;exact hR _ _ s2 ak.bl
 obtain⟨la,rfl,la0,la1⟩:=ak.bls n1;ac_rfl;refine km (ao.of la1) ?_;exact q _ s1
inductive Bf (K:Fg)(C:Nat->Q2)(vs:Ry)(H:Hp)(Q:VK)(E:XK):Prop|mk (p:Q2) (Qg P7:Rw) (ds:List Dd) (P_:Rx):vs=[.ref p]->eZ K (C 0) H p Qg P7 (ds.map cT) P_->P_.length<=1000->(∀ ls∈P_,ls.length<=1000/\∀ l∈ls,l.length=9)->(∀ H',ae H H'->Q (.bl (kD ds P_)) H')->Bf K C vs H Q E
include B Z Q19 in
theorem Nh (F:aN K "notes_right" "notes_right" yq f fd)(m:mg "notes_right"=some (.ref f)):Fn P w K mg b8 "notes_right" ["craft"] 5 (Bf K C):=by
 refine bQ F yJ m λ_ _ _ _ H vs Q E hr h=>?_;obtain⟨p,Qg,P7,ds,P_,rfl,hC,l1000,h9,q⟩:=h;obtain⟨gl,g_LEFT_SPOTS,hL⟩:=B.QO;have sp9:∀ s∈([7,8]:List Nat),s<9:=by decide
 refine⟨_,(av (js 1 yJ.nd (jE K hr (b9 (dw K) rfl B.len L2.boot_len (dD (jf K 0) ag)) (b9 (dw K) rfl B.len L2.boot_len (dD (jf K 0) ag))))
   (aw (aF (dY (pv 1) (eR (b9 (kj K rfl) rfl B.all L2.kK (iH (jC (bB.f yJ ["craft","as_many","lines"] [false,false,true]) (c_ K (jf K 0)) (λn=>(jg 2 n)) (jl Q19 hr (jn 2 (dU (jT rfl g_LEFT_SPOTS) ag)))) ag))))))),?_⟩
 obtain⟨dx,w1,w2,w3,w4,hp,r1,r2,r3,r4⟩:=hC;unfold al at r3 r4;obtain⟨b3,xs3,rfl,q3,z3⟩:=r3;obtain⟨b4,xs4,rfl,q4,z4⟩:=r4;have m3:=z3.length;have m4:=z4.length;rw[aT]at m3 m4;unfold kD at q;ac_rfl;nomatch p,(C 0),dx,_,_,rfl,hp,Z.Qn,Z.QD,lL _ _ _ _;ac_rfl;refine dF (.inl q4) ?_;ac_rfl;nomatch p,(C 0),dx,_,_,rfl,hp,Z.Qn,Z.Qt,iq _ _ _ _;ac_rfl;refine dF (.inl q3) ?_;rw[<-m3,<-m4];ac_rfl;refine fZ (λe=>?_) (λe=>by have q1:=q _ (ae.refl _);rw[e]at q1;exact q1);rw[e,OG]at q;ac_rfl;nomatch p,(C 0),dx,_,_,rfl,hp,Z.Qn,Z.QD,lL _ _ _ _;nomatch b4,rfl,⟨_,q4⟩;refine cG (dO q4) ((P_.map (gy [7,8])).map D.bl) (by simp;omega) (br (by omega)) (λk x d H1 R hk hd s1 hx' hR=>?_) (λv H1 s1 n1=>?_)
 ·obtain⟨d2,hd2,hrx⟩:=au.get' z4 hx';rw[aM]at hd2;obtain⟨l,hl,rfl⟩:=bV.mp hd2;rw[aM,aM,hl]at hd;cases hd;have hr':=al.same s1 _ hrx;obtain⟨xa,rfl⟩:∃ b,x=.ref b:=by unfold bo al at hrx;obtain⟨a,_,e,_⟩:=hrx;exact⟨a,e⟩
  have h9':=h9 l (cq hl);ac_rfl;refine⟨xa,gl,l,[7,8],rfl,hr',hL _,h9'.1,h9'.2,by decide,sp9,λH2 s2=>?_⟩;exact hR _ _ s2 ak.bl
 obtain⟨la,rfl,la0,la1⟩:=ak.bls n1;ac_rfl;refine km (ao.of la1) ?_;exact q _ s1
inductive Bj (K:Fg)(C:Nat->Q2)(vs:Ry)(H:Hp)(Q:VK)(E:XK):Prop|mk (p:Q2) (Qg P7:Rw) (ds:List Dd) (P_:Rx):vs=[.ref p]->eZ K (C 0) H p Qg P7 (ds.map cT) P_->Qg.length<=1000->P7.length<=1000->ds.length<=1000->P_.length<=1000->(∀ l∈Qg,l.length=9)->(∀ l∈P7,l.length=9)->(∀ d∈ds,eU d)->(∀ ls∈P_,ls.length<=1000/\∀ l∈ls,l.length=9)->(∀ H',ae H H'->Q (.bl (dI Qg P7 ds P_)) H')->Bj K C vs H Q E
include B Z in
theorem Jf (Q13:Fn P w K mg b8 "oath_right" ["craft"] 5 (Bi K C))(Q15:Fn P w K mg b8 "deeds_right" ["deeds"] 6 (Bg K))(Q17:Fn P w K mg b8 "notes_right" ["craft"] 5 (Bf K C))(F:aN K "right" "right" wB f fd)(m:mg "right"=some (.ref f)):Fn P w K mg b8 "right" ["craft"] 7 (Bj K C):=by
 refine bQ F IG m λ_ _ _ _ H vs Q E hr h=>?_;obtain⟨p,Qg,P7,ds,P_,rfl,hC,ln,ll,ld,lo,h9n,h9l,h9d,h9o,q⟩:=h;nomatch _,(aw (aF (dY (jl Q13 hr (jn 0 ag)) (dY (jl Q15 hr (dD (jf K 0) ag)) (eR (jl Q17 hr (jn 0 ag)))))));unfold dI at q;ac_rfl;refine⟨p,Qg,P7,_,P_,rfl,hC,ln,ll,h9n,h9l,λH1 s1=>?_⟩;refine ik (λe=>?_) (λe=>by have q1:=q _ s1;rw[e]at q1;exact q1);rw[e,OG]at q;ac_rfl;obtain⟨dx,w1,w2,w3,w4,hp,r1,r2,r3,r4⟩:=eZ.same s1 hC;obtain⟨b3,rfl⟩:∃ b,w3=.ref b:=by unfold al at r3;obtain⟨a,_,e,_⟩:=r3;exact⟨a,e⟩
 nomatch p,(C 0),dx,_,_,rfl,hp,Z.Qn,Z.Qt,iq _ _ _ _;ac_rfl;refine⟨b3,ds,rfl,r3,ld,h9d,λH2 s2=>?_⟩;have s3:=s1.trans s2;refine ik (λe=>?_) (λe=>by have q1:=q _ s3;rw[e]at q1;exact q1);rw[e,OG]at q;ac_rfl;exact⟨p,Qg,P7,ds,P_,rfl,eZ.same s3 hC,lo,h9o,λH4 s4=>q _ (s3.trans s4)⟩
inductive uQ (K:Fg)(C:Nat->Q2)(vs:Ry)(H:Hp)(Q:VK)(E:XK):Prop|mk (p:Q2) (place:Int) (Qg P7:Rw) (P9:List D) (P_:Rx):vs=[.ref p,.int place]->eZ K (C 0) H p Qg P7 P9 P_->0<=place->place<=(P9.length:Int)->P9.length=P_.length->P9.length<=1000->P7.length<=1000->(∀ l∈P7,l.length=9)->(∀ ls∈P_,ls.length<=1000)->(∀ v H',ae H H'->ak H H' (bo (aH P7 P_ place)) v->Q v H')->uQ K C vs H Q E
variable (Q3:Fn P w K mg b8 "bare" ["i"] 1 (xO K))(Q7:Fn P w K mg b8 "turned" ["line","eight"] 2 (Q6 K))
include B Z Qa Q27 Q3 Q7 in
theorem Jo (F:aN K "due_at" "due_at" xc f fd)(m:mg "due_at"=some (.ref f)):Fn P w K mg b8 "due_at" ["craft","place"] 3 (uQ K C):=by
 refine bQ F t_ m λ_ _ _ _ H vs Q E hr h=>?_;obtain⟨p,place,Qg,P7,P9,P_,rfl,hC,h0,hn,hdn,h1000,hl1000,h9,hns,q⟩:=h;obtain⟨ga,g_LEFT_AS_HANDS,hT⟩:=B.QQ;refine⟨_,(av (bb (jt K hr (pv 1) (b9 (dw K) rfl B.len L2.boot_len (dD (jf K 0) ag))) (av (js 2 t_.nd (jC (bB.f t_ ["craft","place","eight","i"] [false,false,false,true]) (pd K (jT rfl g_LEFT_AS_HANDS)) (λn=>(jg 3 n)) (jl Q3 hr (jn 3 ag))))
   (aw (aF (jC (bB.f t_ ["craft","place","eight","line"] [false,false,false,true]) (c_ K (jf K 0)) (λn=>(jg 3 n)) (jl Q7 hr (jn 3 (jn 2 ag))))))) bp)
   (av (bb (gj (jl Q27 hr (jk (jn 1 (bw (aK jJ (b9 (rZ rfl) rfl B.min L2.JW (bv (b9 (dw K) rfl B.len L2.boot_len (dD (jf K 0) ag)) (bv (b9 (dw K) rfl B.len L2.boot_len (dD (jf K 0) ag)) ag))) ah) ag))))) (aw (aF (jl Qa hr (bc (jx K (jf K 0) (pv 1)) ag)))) bp)
   (aw (aF (bu ag))))),?_⟩
 obtain⟨dx,w1,w2,w3,w4,hp,r1,r2,r3,r4⟩:=hC;unfold bo al at r2;unfold al at r3 r4;obtain⟨b2,xs2,rfl,q2,z2⟩:=r2;obtain⟨b3,xs3,rfl,q3,z3⟩:=r3;obtain⟨b4,xs4,rfl,q4,z4⟩:=r4;have m2:=z2.length;have m3:=z3.length;have m4:=z4.length;rw[aT]at m2 m4;ac_rfl;nomatch p,(C 0),dx,_,_,rfl,hp,Z.Qn,Z.Qt,iq _ _ _ _;ac_rfl;refine dF (.inl q3) ?_;ac_rfl;unfold aH at q;refine bC (λe=>?_) (λe=>?_)
 ·have e':place=(xs3.length:Int):=Ot e;rw[Ol (by omega)]at q;ac_rfl;nomatch ga,rfl,⟨_,hT _⟩;refine cG (n:=8) (pN (xs:=pj.map V.int) (hT H)) (gc.map nums) (by simp[gc,pj]) (by decide) (λj x d H1 R hj hd s1 hx hR=>?_) (λv H1 s1 n1=>?_)
  ·unfold gc at hd;rw[aM]at hx;obtain⟨i,hi,rfl⟩:=bV.mp hx;rw[aM,aM,hi]at hd;cases hd;ac_rfl;refine g8 λv H2 s2 n2=>?_;exact hR _ _ s2 n2
  have hE:al K H1 (.lst (gc.map nums)) v:=ak.rep n1;obtain⟨ea,evs,rfl,ea0,ea1,ew⟩:=ak.news n1;ac_rfl;nomatch p,(C 0),dx,_,_,rfl,s1 _ _ hp,Z.Qn,Z.QC,kI _ _ _ _;nomatch b2,rfl,⟨_,s1.seq q2⟩;refine cG (dO (s1.seq q2)) ((P7.map λl=>ck l gc).map nums) (by rw[aT,aT];omega) (br (by omega)) (λj x d H2 R hj hd s2 hx hR=>?_) (λv H2 s2 n2=>?_)
  ·obtain⟨d2,hd2,hrx⟩:=au.get' z2 hx;rw[aM]at hd2;obtain⟨l,hl,rfl⟩:=bV.mp hd2;rw[aM,aM,hl]at hd;cases hd;obtain⟨xa,rfl,hxa⟩:=fO.mp (al.same (s1.trans s2) _ hrx);have l9:=h9 l (cq hl);cases l with
   |nil=>simp at l9|cons c fs=>
    ac_rfl;refine⟨xa,ea,c,fs,gc,rfl,hxa,al.same s2 _ hE,by simpa using l9,by simp[gc,pj],KO,λi l w el _ n hn=>?_,λv' H3 s3 n3=>?_⟩
    ·rcases KN l (cq el) n hn with z|z<;>subst z<;>exact .inl ⟨by decide,by decide⟩
    ·exact hR _ _ s3 n3
  exact q _ _ (s1.trans s2) (n2.back s1)
 ·have e':¬ place=(xs3.length:Int):=Ou (Ow.mpr e);rw[Oh (by omega)]at q;ac_rfl;nomatch p,(C 0),dx,_,_,rfl,hp,Z.Qn,Z.Qt,iq _ _ _ _;ac_rfl;refine dF (.inl q3) ?_;ac_rfl;nomatch p,(C 0),dx,_,_,rfl,hp,Z.Qn,Z.QD,lL _ _ _ _;ac_rfl;refine dF (.inl q4) ?_;ac_rfl;refine rq ?_;ac_rfl;refine mF ?_;rw[show(if((xs4.length:Nat):Int)<((xs3.length:Nat):Int)then((xs4.length:Nat):Int)else((xs3.length:Nat):Int))=(xs3.length:Int)by rw[Oh (by omega)],Og h0,Og (show place<=(xs3.length:Int) - 1 by omega)];show ∃ c,V.bl true=.bl c/\_;ac_rfl;nomatch p,(C 0),dx,_,_,rfl,hp,Z.Qn,Z.QD,lL _ _ _ _;ac_rfl;have pl:place.toNat<P_.length:=by omega
  obtain⟨x,hx,hr4⟩:=z4.get (i:=place.toNat) (d:=bo P_[place.toNat]) (by simp[pl]);have ei:fg xs4 place=some x:=by have:=bi hx;rwa [show((place.toNat:Nat):Int)=place by omega]at this
  obtain⟨b,rfl⟩:∃ b,x=.ref b:=by unfold bo al at hr4;obtain⟨a,_,e,_⟩:=hr4;exact⟨a,e⟩
  refine bK q4 ei ?_;ac_rfl;refine⟨b,_,rfl,hr4,hns _ (OO pl),λv H1 s1 n1=>?_⟩;refine q _ _ s1 ?_;rw[show P_.getD place.toNat []=P_[place.toNat]by simp[List.getD,pl]];exact n1
inductive AR (K:Fg)(vs:Ry)(H:Hp)(Q:VK)(E:XK):Prop|mk (d:Q2) (kvs:List (bj×V)) (ch:Nat->Option Rv):vs=[.ref d]->H d=some (.dK kvs)->(∀ i:Nat,i<8->(ch i=none/\aG kvs (.inl (0+(i:Int)))=none)\/∃ a l,ch i=some l/\aG kvs (.inl (0+(i:Int)))=some (.ref a)/\l.length=9/\H a=some (.lst (l.map V.int)))->(∀ a H',ae H H'->H a=none->Ls H' a (bN ch)->Q (.ref a) H')->AR K vs H Q E
theorem Mj (i:Int):(aD i).length=9:=by simp[aD]
theorem mK (ch:Nat->Option Rv):(bN ch).length=8:=by simp[bN]
theorem K8(h:n∈aD i):n=0\/n=1:=by
 unfold aD at h;rcases Oe.mp h with h|h
 ·exact .inl h
 ·obtain⟨k,_,rfl⟩:=bU.mp h;split
  ·exact .inr rfl
  ·exact .inl rfl
theorem g_ (i:Int):Sm (aD i):=λn hn=>by rcases K8 hn with z|z<;>subst z<;>exact⟨by decide,by decide⟩
theorem mz {eight:Rw}{ws:Rv}(h:∀ l∈eight,Sm l):sP eight ws:=λi l w e _ n hn=>.inl (h l (cq e) n hn)
theorem iJ {ch:Nat->Option Rv}{P:Rv->Prop}(hb:∀ i:Int,P (aD i))(hc:∀ i l,ch i=some l->P l):∀ l∈bN ch,P l:=λl hl=>by obtain⟨i,_,rfl⟩:=bU.mp hl;cases e:ch i with
 |none=>exact hb _|some l=>exact hc i l e
theorem om{k:Int}{P:Rv->Prop}(h:P l):∀ i m,cV k l i=some m->P m:=λi m e=>by
 unfold cV at e;split at e
 ·cases e;exact h
 ·cases e
theorem vC{k:Int}(h9:l.length=9)(ha:H a=some (.lst (l.map V.int))):∀ i:Nat,i<8->(cV k l i=none/\aG (eF [] [(Sum.inl k,V.ref a)]) (.inl (0+(i:Int)))=none)\/∃ b m,cV k l i=some m/\aG (eF [] [(Sum.inl k,V.ref a)]) (.inl (0+(i:Int)))=some (.ref b)/\m.length=9/\H b=some (.lst (m.map V.int)):=λi _=>by
 have e:aG (eF [] [((Sum.inl k:bj),V.ref a)]) (.inl (0+(i:Int)))=if(Sum.inl (0+(i:Int)):bj)=Sum.inl k then some (.ref a)else none:=by show aG (aZ [] _ _) _=_;rw[ox];rfl
 by_cases z:k=0+(i:Int)
 ·refine .inr ⟨a,l,by unfold cV;rw[Ol z],?_,h9,ha⟩;rw[e,Ol (by rw[z])]
 ·refine .inl ⟨by unfold cV;rw[Oh z],?_⟩;rw[e,Oh (by intro w;injection w with w;exact z w.symm)]
theorem tw{P:Rv->Prop}(h0:P l0)(h1:P l1):∀ i m,cz k0 l0 k1 l1 i=some m->P m:=λi m e=>by
 unfold cz at e;split at e
 ·cases e;exact h1
 split at e
 ·cases e;exact h0
 ·cases e
theorem BV{a0 a1:Q2}(h90:l0.length=9)(h91:l1.length=9)(ha0:H a0=some (.lst (l0.map V.int)))(ha1:H a1=some (.lst (l1.map V.int))):∀ i:Nat,i<8->(cz k0 l0 k1 l1 i=none/\aG (eF [] [(Sum.inl k0,V.ref a0),(Sum.inl k1,V.ref a1)]) (.inl (0+(i:Int)))=none)\/∃ b m,cz k0 l0 k1 l1 i=some m/\aG (eF [] [(Sum.inl k0,V.ref a0),(Sum.inl k1,V.ref a1)]) (.inl (0+(i:Int)))=some (.ref b)/\m.length=9/\H b=some (.lst (m.map V.int)):=λi _=>by
 have e:aG (eF [] [((Sum.inl k0:bj),V.ref a0),(Sum.inl k1,V.ref a1)]) (.inl (0+(i:Int)))=if(Sum.inl (0+(i:Int)):bj)=Sum.inl k1 then some (.ref a1)else if(Sum.inl (0+(i:Int)):bj)=Sum.inl k0 then some (.ref a0)else none:=by show aG (aZ (aZ [] _ _) _ _) _=_;rw[ox,ox];rfl
 by_cases z1:k1=0+(i:Int)
 ·refine .inr ⟨a1,l1,by unfold cz;rw[Ol z1],?_,h91,ha1⟩;rw[e,Ol (by rw[z1])]
 ·have n1:¬ (Sum.inl (0+(i:Int)):bj)=Sum.inl k1:=by intro w;injection w with w;exact z1 w.symm
  by_cases z0:k0=0+(i:Int)
  ·refine .inr ⟨a0,l0,by unfold cz;rw[Oh z1,Ol z0],?_,h90,ha0⟩;rw[e,Oh n1,Ol (by rw[z0])]
  ·refine .inl ⟨by unfold cz;rw[Oh z1,Oh z0],?_⟩;rw[e,Oh n1,Oh (by intro w;injection w with w;exact z0 w.symm)]
include B Z Q3 in
theorem Mw (F:aN K "eight_with" "eight_with" yx f fd)(m:mg "eight_with"=some (.ref f)):Fn P w K mg b8 "eight_with" ["changes"] 2 (AR K):=by
 refine bQ F EY m λ_ _ _ _ H vs Q E hr h=>?_;obtain⟨d,kvs,ch,rfl,hd,hch,q⟩:=h;nomatch _,(aw (aF (jC (bB.f EY ["changes","i"] [false,true]) (hU rfl B.range (dU (dP rfl B.QN) ag)) (λn=>(jg 1 n)) (JE (bS hr) (pv 0) (pv 1) (jl Q3 hr (jn 1 ag)) ⟨rfl,rfl,rfl,rfl⟩))));have h9:∀ l∈bN ch,l.length=9:=λl hl=>by
  obtain⟨i,hi,rfl⟩:=bU.mp hl;rcases hch i (List.mem_range.mp hi)with⟨e,_⟩|⟨a,l,e,_,hl9,_⟩
  ·rw[e];exact Mj _
  ·rw[e];exact hl9
 ac_rfl;refine hJ (by decide) (by decide) ?_;refine HW (n:=8) kO (bN ch) (mK ch) (by decide) h9 (λi x l H1 R hi hl s1 hx hR=>?_) (λa H1 s1 ha hL=>?_)
 ·subst hx;have el:l=(ch i).getD (aD (0+(i:Int))):=by unfold bN at hl;rw[aM,O1 hi]at hl;cases hl;rfl
  ac_rfl;nomatch d,rfl,.inl ⟨kvs,.inl (s1 _ _ hd)⟩;ac_rfl;refine g8 λv H2 s2 n2=>?_;obtain⟨b,rfl,b0,b1⟩:=ak.iif.mp n2;have hg:bh H2 d (.int (0+(i:Int))) (aG kvs (.inl (0+(i:Int)))):=bh.k (k:=.inl (0+(i:Int))) (s2 _ _ (s1 _ _ hd));nomatch _,hg;rcases hch i hi with⟨e,ev⟩|⟨a,l',e,ev,_,ha⟩
  ·rw[ev];exact hR b _ s2 (by rw[el,e];exact b1)
  ·rw[ev];exact hR a _ s2 (by rw[el,e];exact s2 _ _ (s1 _ _ ha))
 ·ac_rfl;exact q a H1 s1 ha hL
inductive AT (K:Fg)(vs:Ry)(H:Hp)(Q:VK)(E:XK):Prop|mk (a b:Q2) (goals Qo:Rw):vs=[.ref a,.ref b]->al K H (bo goals) (.ref a)->al K H (bo Qo) (.ref b)->goals.length<=1000->Qo.length<=1000->(∀ v H',ae H H'->ak H H' (.lst (goals.map λg=>fm g Qo)) v->Q v H')->AT K vs H Q E
include B Z Qa in
theorem Mi (F:aN K "each_from" "each_from" ye f fd)(m:mg "each_from"=some (.ref f)):Fn P w K mg b8 "each_from" ["goals","hypotheses"] 2 (AT K):=by
 refine bQ F EQ m λ_ _ _ _ H vs Q E hr h=>?_;obtain⟨a,b,goals,Qo,rfl,hA,hB,hg,hh,q⟩:=h;nomatch _,(aw (aF (jC (bB.f EQ ["goals","hypotheses","goal"] [false,false,true]) (c_ K (pv 0)) (λn=>(jg 2 n)) (b_ (bv (mI (s_ K) rfl B.list L2.oE (jn 2 ag)) (bv (jl Qa hr (jn 1 ag)) ag))))));unfold bo al at hA;obtain⟨_,xs,e,hA,hx⟩:=hA;cases e;have lx:=hx.length;rw[aT]at lx;ac_rfl;nomatch a,rfl,⟨_,hA⟩;refine cG (dO hA) (goals.map λg=>fm g Qo) (by simp[lx]) (br (by omega)) (λi x d H1 R hi hd s1 hx' hR=>?_) (λv H1 s1 n1=>?_)
 ·obtain⟨d2,hd2,hrx⟩:=hx.get' hx';rw[aM]at hd2;obtain⟨l,hl',rfl⟩:=bV.mp hd2;rw[aM,hl']at hd;cases hd;obtain⟨xa,rfl,hxa⟩:=fO.mp (al.same s1 _ hrx);ac_rfl;refine tT (.inl hxa) λp hp=>?_;have t1:=ax hp (.lst (l.map V.int));ac_rfl;refine⟨b,Qo,rfl,al.same (s1.trans t1) _ hB,hh,λv H2 s2 n2=>?_⟩;ac_rfl;refine⟨(by right),λT hT=>?_⟩;have t3:=ax hT (.tup [.ref p,v]);obtain⟨fp,f1,f2,f3⟩:=n2;have pn:p∉fp:=λm=>by have:=f3 p m;rw[aq]at this;cases this
  refine hR _ _ (t1.trans (s2.trans t3)) (ak.tup (fp:=p::fp) (aj.cany (f:=[p]) (fp:=fp) (ai.line (t3 _ _ (s2 _ _ aq))) ?_) (OM.mpr ⟨pn,f2⟩) (λc hc=>?_) aq)
  ·have:=aj.cany (ai.sq t3.sq _ f1) (aj.nil (H:=upd H2 T (.tup [.ref p,v])));rw[OP]at this;exact this
  ·rcases Oe.mp hc with z|z
   ·rw[z];exact hp
   ·exact t1.free (f3 c z)
 ·ac_rfl;exact q _ _ s1 n1
inductive AS (K:Fg)(vs:Ry)(H:Hp)(Q:VK)(E:XK):Prop|mk (a b:Q2) (ls eight:Rw):vs=[.ref a,.ref b]->al K H (bo ls) (.ref a)->al K H (.lst (eight.map nums)) (.ref b)->ls.length<=1000->(∀ l∈ls,l.length=9/\sP eight l.tail)->eight.length=8->(∀ l∈eight,l.length=9)->(∀ v H',ae H H'->ak H H' (bo (ls.map λl=>ck l eight)) v->Q v H')->AS K vs H Q E
include B Z Q7 in
theorem Mv (F:aN K "all_turned" "all_turned" yy f fd)(m:mg "all_turned"=some (.ref f)):Fn P w K mg b8 "all_turned" ["lines","eight"] 3 (AS K):=by
 refine bQ F EZ m λ_ _ _ _ H vs Q E hr h=>?_;obtain⟨a,b,ls,eight,rfl,hA,hB,hl,hk,l8,e9,q⟩:=h;nomatch _,(aw (aF (jC (bB.f EZ ["lines","eight","line"] [false,false,true]) (c_ K (pv 0)) (λn=>(jg 2 n)) (jl Q7 hr (jn 2 (jn 1 ag))))));unfold bo al at hA;obtain⟨_,xs,e,hA,hx⟩:=hA;cases e;have lx:=hx.length;rw[aT]at lx;ac_rfl;nomatch a,rfl,⟨_,hA⟩;refine cG (dO hA) ((ls.map λl=>ck l eight).map nums) (by simp[lx]) (br (by omega)) (λi x d H1 R hi hd s1 hx' hR=>?_) (λv H1 s1 n1=>?_)
 ·obtain⟨d2,hd2,hrx⟩:=hx.get' hx';rw[aM]at hd2;obtain⟨l,hl',rfl⟩:=bV.mp hd2;rw[aM,aM,hl']at hd;cases hd;obtain⟨xa,rfl,hxa⟩:=fO.mp (al.same s1 _ hrx);obtain⟨l9,ok⟩:=hk l (cq hl');obtain⟨c,fs,rfl⟩:∃ c fs,l=c::fs:=by cases l with
   |nil=>simp at l9|cons c fs=>exact⟨c,fs,rfl⟩
  ac_rfl;refine⟨xa,b,c,fs,eight,rfl,hxa,al.same s1 _ hB,by simpa using l9,l8,e9,ok,λv H2 s2 n2=>?_⟩;exact hR _ _ s2 n2
 ·ac_rfl;exact q _ _ s1 n1
abbrev BU:=kL
def ze (K:Fg):Sp:=λvs H Q _=>∃ i:Int,vs=[.int i]/\∀ v H',ae H H'->ak H H' (nums (BU i)) v->Q v H'
theorem ol(q:∀ v H',ae H H'->ak H H' (nums (BU i)) v->Q v H'):ze K [.int i] H Q E:=⟨i,rfl,q⟩
include B Z in
theorem LJ (F:aN K "constant" "constant" xM f fd)(m:mg "constant"=some (.ref f)):Fn P w K mg b8 "constant" ["number"] 1 (ze K):=by refine bQ F LO m λ_ _ _ _ H vs Q E hr h=>?_;obtain⟨i,rfl,q⟩:=h;nomatch _,(aw (aF (jp K (bu (jn 0 ag)) (aK h_ (bu (jk ag)) (dP rfl B.QN)))));ac_rfl;refine⟨(by right),λp hp=>?_⟩;ac_rfl;refine⟨(by right),λp2 hp2=>?_⟩;ac_rfl;refine .inr ⟨p2,8,[.int 0],rfl,rfl,aq,by decide,by decide,by decide,λp3 hp3=>?_⟩;have t1:=ax hp (.lst [.int i]);have t2:=ax hp2 (.lst [.int 0]);have t3:=ax hp3 (.lst (RB (8:Int).toNat [V.int 0]).flatten);ac_rfl;refine dW (t3 _ _ (t2 _ _ aq)) aq (br (by show 1+8<=1000;decide)) λp4 hp4=>?_;have s:=t1.trans (t2.trans t3);exact q _ _ (s.trans (ax hp4 _)) (ak.iif.mpr ⟨p4,rfl,s.free hp4,aq⟩)
theorem zu(h:-(2 ^ 64)<n/\n<2 ^ 64):Sm (kL n):=λm hm=>by
 unfold kL at hm;rcases Oe.mp hm with z|z
 ·rw[z];exact h
 ·rw[(List.mem_replicate.mp z).2];exact⟨by decide,by decide⟩
theorem Cu {P:Rv->Prop}(h4:P (aD 4))(h5:P (aD 5))(hk:P (kL 0)):∀ i m,fW i=some m->P m:=λi m e=>by
 unfold fW at e;split at e
 ·cases e;exact h4
 split at e
 ·cases e;exact h5
 split at e
 ·cases e;exact hk
 split at e
 ·cases e;exact hk
 ·cases e
variable {c:Q2}
theorem GH{d:Q2}(ha:H a=some (.lst ((aD 4).map V.int)))(hb:H b=some (.lst ((aD 5).map V.int)))(hc:H c=some (.lst ((kL 0).map V.int)))(hd:H d=some (.lst ((kL 0).map V.int))):∀ i:Nat,i<8->(fW i=none/\aG (eF [] [(Sum.inl 0,V.ref a),(Sum.inl 1,V.ref b),(Sum.inl 2,V.ref c),(Sum.inl 3,V.ref d)]) (.inl (0+(i:Int)))=none)\/∃ x m,fW i=some m/\aG (eF [] [(Sum.inl 0,V.ref a),(Sum.inl 1,V.ref b),(Sum.inl 2,V.ref c),(Sum.inl 3,V.ref d)]) (.inl (0+(i:Int)))=some (.ref x)/\m.length=9/\H x=some (.lst (m.map V.int)):=λi hi=>by
 have e:∀ k:bj,aG (eF [] [((Sum.inl 0:bj),V.ref a),(Sum.inl 1,V.ref b),(Sum.inl 2,V.ref c),(Sum.inl 3,V.ref d)]) k=if k=Sum.inl 3 then some (.ref d)else if k=Sum.inl 2 then some (.ref c)else if k=Sum.inl 1 then some (.ref b)else if k=Sum.inl 0 then some (.ref a)else none:=λk=>by simp only[eF,List.foldl_cons,List.foldl_nil,ox];rfl
 rw[e];match i,hi with|0,_=>exact .inr ⟨a,_,rfl,rfl,bO 4,ha⟩|1,_=>exact .inr ⟨b,_,rfl,rfl,bO 5,hb⟩|2,_=>exact .inr ⟨c,_,rfl,rfl,fF 0,hc⟩|3,_=>exact .inr ⟨d,_,rfl,rfl,fF 0,hd⟩|4,_=>exact .inl ⟨rfl,rfl⟩|5,_=>exact .inl ⟨rfl,rfl⟩|6,_=>exact .inl ⟨rfl,rfl⟩|7,_=>exact .inl ⟨rfl,rfl⟩
inductive AZ (K:Fg)(C:Nat->Q2)(vs:Ry)(H:Hp)(Q:VK)(E:XK):Prop|mk (p:Q2) (Qg P7:Rw) (P9:List D) (P_:Rx):vs=[.ref p]->eZ K (C 0) H p Qg P7 P9 P_->fX Qg P7 P9.length P_->(∀ v H',ae H H'->ak H H' (.lst (o7 Qg P7 P_)) v->Q v H')->AZ K C vs H Q E
variable (Q3c:Fn P w K mg b8 "eight_with" ["changes"] 2 (AR K))(Q38:Fn P w K mg b8 "each_from" ["goals","hypotheses"] 2 (AT K))(Q3a:Fn P w K mg b8 "all_turned" ["lines","eight"] 3 (AS K))(Q3d:Fn P w K mg b8 "constant" ["number"] 1 (ze K))(Q29:Fn P w K mg b8 "due_at" ["craft","place"] 3 (uQ K C))
include B Z Q3 Q3c Q38 Q3a Q3d Q29 in
theorem M5 (F:aN K "first_duties" "first_duties" yR f fd)(m:mg "first_duties"=some (.ref f)):Fn P w K mg b8 "first_duties" ["craft"] 4 (AZ K C):=by
 refine bQ F Ff m λ_ _ _ _ H vs Q E hr h=>?_;obtain⟨p,Qg,P7,P9,P_,rfl,hC,hg,q⟩:=h;refine⟨_,(av (js 1 Ff.nd (jl Q3c hr (dE (oi (iZ ah (jl Q3 hr (dU (dP rfl B.QZ) ag)) (iZ ah (jl Q3 hr (dU (dP rfl B.QY) ag)) (iZ ah (jl Q3d hr (jk ag)) (iZ ah (jl Q3d hr (jk ag)) oj)))) rfl rfl (by simp) (by simp)) ag)))
   (aw (aF (jl Q38 hr (bv (jl Q3a hr (bv (jl Q29 hr (jn 0 (jk ag))) (jn 1 ag))) (dD (jf K 0) ag)))))),?_⟩
 left;nofun;refine nO λdp hdp=>?_;have u0:=ax hdp (.dK []);nofun;refine g8 λv H1 s1 n1=>?_;obtain⟨b1,rfl,b10,b11⟩:=ak.iif.mp n1;nofun;refine g8 λv H2 s2 n2=>?_;obtain⟨b2,rfl,b20,b21⟩:=ak.iif.mp n2;nofun;refine ol λv H3 s3 n3=>?_;obtain⟨b3,rfl,b30,b31⟩:=ak.iif.mp n3;nofun;refine ol λv H4 s4 n4=>?_;obtain⟨b4,rfl,b40,b41⟩:=ak.iif.mp n4;nofun;have d1:H1 dp=some (.dK []):=s1 _ _ aq;have d4:H4 dp=some (.dK []):=s4 _ _ (s3 _ _ (s2 _ _ d1));have ne:∀{b:Q2}{l:Rv},H4 b=some (.lst (l.map V.int))->b≠dp:=λe z=>by rw[z,d4]at e;cases e
 have f1:=s4 _ _ (s3 _ _ (s2 _ _ b11));have f2:=s4 _ _ (s3 _ _ b21);have f3:=s4 _ _ b31;nomatch d4,[(.inl 0,.ref b1),(.inl 1,.ref b2),(.inl 2,.ref b3),(.inl 3,.ref b4)],rfl,by simp
 have s05:ae H (upd H4 dp (.dK (eF [] [(.inl 0,.ref b1),(.inl 1,.ref b2),(.inl 2,.ref b3),(.inl 3,.ref b4)]))):=(u0.trans (s1.trans (s2.trans (s3.trans s4)))).put hdp;nofun;refine⟨dp,_,fW,rfl,aq,GH (by rw[aC (ne f1)];exact f1) (by rw[aC (ne f2)];exact f2) (by rw[aC (ne f3)];exact f3) (by rw[aC (ne b41)];exact b41),λea H6 s6 ea0 hE=>?_⟩;have s06:=s05.trans s6;have m9:∀ l∈bN fW,l.length=9:=iJ (λi=>bO i) (Cu (bO 4) (bO 5) (fF 0));have msm:∀ l∈bN fW,Sm l:=iJ (λi=>g_ i) (Cu (g_ 4) (g_ 5) (zu ⟨by decide,by decide⟩));have gd:=hg.due 0;nofun;refine⟨p,0,Qg,P7,P9,P_,rfl,hC.same s06,by decide,by omega,hg.dn,by have:=hg.d;omega,by have:=hg.l;omega,hg.l9,λls hl=>by have:=(hg.o ls hl).1;omega,λv H7 s7 n7=>?_⟩;have rv:=ak.rep (K:=K) n7;obtain⟨da,rfl⟩:∃ b,v=.ref b:=by obtain⟨b,_,e,_⟩:=ak.news n7;exact⟨b,e⟩
 nofun;refine⟨da,ea,_,bN fW,rfl,rv,(hE.same s7).rep,by omega,λl hl=>⟨gd.2 l hl,mz msm⟩,mK _,m9,λv H8 s8 n8=>?_⟩;have rv8:=ak.rep (K:=K) n8;obtain⟨ga,rfl⟩:∃ b,v=.ref b:=by obtain⟨b,_,e,_⟩:=ak.news n8;exact⟨b,e⟩
 have s08:=s06.trans (s7.trans s8);obtain⟨dx,w1,w2,w3,w4,hp,r1,r2,r3,r4⟩:=hC.same s08;obtain⟨y1,rfl⟩:∃ b,w1=.ref b:=by unfold bo al at r1;obtain⟨a,_,e,_⟩:=r1;exact⟨a,e⟩
 nofun;exists p,(C 0),dx,_,_,rfl,hp,Z.Qn,Z.Qz,jY _ _ _ _;refine⟨ga,y1,_,Qg,rfl,rv8,r1,by simp;omega,by have:=hg.n;omega,λv H9 s9 n9=>?_⟩;exact q _ _ (s08.trans s9) (n9.back s08)
inductive AU (K:Fg)(C:Nat->Q2)(vs:Ry)(H:Hp)(Q:VK)(E:XK):Prop|mk (t na aa o g2 t2:Q2) (m g0 g1 t0 t1:Int) (P_ after Qg P7:Rw) (P9:List D) (ns:Rx):vs=[.ref t,.ref na,.ref aa,.ref o]->aB K H t [.str "call",.int m,.ref g2,.ref t2]->aB K H g2 [.int g0,.int g1]->aB K H t2 [.int t0,.int t1]->Ls H na P_->al K H (bo after) (.ref aa)->P_.length<=100->after.length<=100->(∀ l∈P_,l.length=9)->(∀ l∈after,l.length=9)->eZ K (C 0) H o Qg P7 P9 ns->fX Qg P7 P9.length ns->(∀ v H',ae H H'->ak H H' (.lst (((Qg.map λl=>ck l (bN (cz 4 (aD g0) 5 (aD g1)))).map λg=>fm g P_)++(after.map λl=>ck l (bN (cz t0 (aD 6) t1 (aD 7)))).map λg=>fm g (P_++P7.map λl=>ck l (bN (cz 4 (aD g0) 5 (aD g1)))))) v->Q v H')->AU K C vs H Q E
include B Z Q3 Q3c Q38 Q3a in
theorem Ng (F:aN K "call_duties" "call_duties" yj f fd)(m:mg "call_duties"=some (.ref f)):Fn P w K mg b8 "call_duties" ["deed","notes","after","other"] 4 (AU K C):=by
 refine bQ F oI m (λ_ _ _ _ H vs Q E hr h=>?_) (ln:=by intro vs H Q E h;(obtain⟨_,_,_,_,_,_,_,_,_,_,_,_,_,_,_,_,_,rfl,_⟩:=h;rfl));obtain⟨t,na,aa,o,g2,t2,m,g0,g1,t0,t1,P_,after,Qg,P7,P9,ns,rfl,hT,hG,hK,hN,hA,ln,lf,o9,a9,hC,hg,q⟩:=h;refine⟨_,(av (js 4 oI.nd (jx K (pv 0) ah))
   (av (js 5 oI.nd (jx K (pv 0) ah))
   (av (js 6 oI.nd (jl Q3c hr (dE (oi (iZ (dP rfl B.QZ) (jl Q3 hr (bc (jx K (pv 4) ah) ag)) (iZ (dP rfl B.QY) (jl Q3 hr (bc (jx K (pv 4) ah) ag)) oj)) rfl rfl (by simp) (by simp)) ag)))
   (av (js 7 oI.nd (jl Q3c hr (dE (oi (iZ (jx K (pv 5) ah) (jl Q3 hr (dU (dP rfl B.QM) ag)) (iZ (jx K (pv 5) ah) (jl Q3 hr (dU (dP rfl B.Ro) ag)) oj)) rfl rfl (by simp) (by simp)) ag)))
   (av (js 8 oI.nd (jl Q38 hr (bv (jl Q3a hr (dD (jf K 3) (jn 6 ag))) (jn 1 ag))))
   (aw (aF (jp K (pv 8) (jl Q38 hr (bv (jl Q3a hr (jn 2 (jn 7 ag))) (bw (jp K (pv 1) (jl Q3a hr (dD (jf K 3) (jn 6 ag)))) ag))))))))))),?_⟩
 left;nofun;refine aP hT (v:=.ref g2) (bi (j:=2) rfl) ?_;nofun;left;nofun;refine aP hT (v:=.ref t2) (bi (j:=3) rfl) ?_;nofun;left;nofun;refine nO λdp hdp=>?_;have u0:=ax hdp (.dK []);nofun;refine aP (u0.tup hG) (v:=.int g0) db ?_;nofun;refine g8 λv H1 s1 n1=>?_;obtain⟨b1,rfl,b10,b11⟩:=ak.iif.mp n1;nofun;refine aP ((u0.trans s1).tup hG) (v:=.int g1) (bi (j:=1) rfl) ?_;nofun;refine g8 λv H2 s2 n2=>?_;obtain⟨b2,rfl,b20,b21⟩:=ak.iif.mp n2;nofun;have d2:H2 dp=some (.dK []):=s2 _ _ (s1 _ _ aq);have ne:∀{b:Q2}{l:Rv},H2 b=some (.lst (l.map V.int))->b≠dp:=λe z=>by rw[z,d2]at e;cases e
 have f1:=s2 _ _ b11;nomatch d2,[(.inl 4,.ref b1),(.inl 5,.ref b2)],rfl,by simp
 have s03:ae H (upd H2 dp (.dK (eF [] [(.inl 4,.ref b1),(.inl 5,.ref b2)]))):=(u0.trans (s1.trans s2)).put hdp;nofun;refine⟨dp,_,cz 4 (aD g0) 5 (aD g1),rfl,aq,BV (bO g0) (bO g1) (by rw[aC (ne f1)];exact f1) (by rw[aC (ne b21)];exact b21),λea H4 s4 ea0 hE=>?_⟩;have s04:=s03.trans s4;have e9:∀ l∈bN (cz 4 (aD g0) 5 (aD g1)),l.length=9:=iJ (λi=>bO i) (tw (bO g0) (bO g1));have esm:∀ l∈bN (cz 4 (aD g0) 5 (aD g1)),Sm l:=iJ (λi=>g_ i) (tw (g_ g0) (g_ g1));have elen:=mK (cz 4 (aD g0) 5 (aD g1));generalize bN (cz 4 (aD g0) 5 (aD g1))=giving at hE e9 esm elen q;nofun;left;nofun;refine nO λdq hdq=>?_;have w0:=ax hdq (.dK []);nofun;refine aP ((s04.trans w0).tup hK) (v:=.int t0) db ?_;nofun;refine g8 λv H5 s5 n5=>?_;obtain⟨b3,rfl,b30,b31⟩:=ak.iif.mp n5;nofun;refine aP ((s04.trans (w0.trans s5)).tup hK) (v:=.int t1) (bi (j:=1) rfl) ?_;nofun;refine g8 λv H6 s6 n6=>?_;obtain⟨b4,rfl,b40,b41⟩:=ak.iif.mp n6;nofun;have d6:H6 dq=some (.dK []):=s6 _ _ (s5 _ _ aq);have ne6:∀{b:Q2}{l:Rv},H6 b=some (.lst (l.map V.int))->b≠dq:=λe z=>by rw[z,d6]at e;cases e
 have f3:=s6 _ _ b31;nomatch d6,[(.inl t0,.ref b3),(.inl t1,.ref b4)],rfl,by simp
 have s47:ae H4 (upd H6 dq (.dK (eF [] [(.inl t0,.ref b3),(.inl t1,.ref b4)]))):=(w0.trans (s5.trans s6)).put hdq;nofun;refine⟨dq,_,cz t0 (aD 6) t1 (aD 7),rfl,aq,BV (bO 6) (bO 7) (by rw[aC (ne6 f3)];exact f3) (by rw[aC (ne6 b41)];exact b41),λta H8 s8 ta0 hF=>?_⟩;have s48:=s47.trans s8;have s08:=s04.trans s48;have k9:∀ l∈bN (cz t0 (aD 6) t1 (aD 7)),l.length=9:=iJ (λi=>bO i) (tw (bO 6) (bO 7));have ksm:∀ l∈bN (cz t0 (aD 6) t1 (aD 7)),Sm l:=iJ (λi=>g_ i) (tw (g_ 6) (g_ 7));have klen:=mK (cz t0 (aD 6) t1 (aD 7));generalize bN (cz t0 (aD 6) t1 (aD 7))=taking at hF k9 ksm klen q;obtain⟨dx,w1,w2,w3,w4,hp,r1,r2,r3,r4⟩:=hC;obtain⟨y1,rfl⟩:∃ b,w1=.ref b:=by unfold bo al at r1;obtain⟨a,_,e,_⟩:=r1;exact⟨a,e⟩
 obtain⟨y2,rfl⟩:∃ b,w2=.ref b:=by unfold bo al at r2;obtain⟨a,_,e,_⟩:=r2;exact⟨a,e⟩
 nofun;left;nofun;exists o,(C 0),dx,_,_,rfl,s08 _ _ hp,Z.Qn,Z.Qz,jY _ _ _ _;have hE8:=hE.same s48;refine⟨y1,ea,Qg,giving,rfl,al.same s08 _ r1,hE8.rep,by have:=hg.n;omega,λl hl=>⟨hg.n9 l hl,mz esm⟩,elen,e9,λv H9 s9 n9=>?_⟩;have rv9:=ak.rep (K:=K) n9;obtain⟨ga,rfl⟩:∃ b,v=.ref b:=by obtain⟨b,_,e,_⟩:=ak.news n9;exact⟨b,e⟩
 nofun;have hN9:=hN.same (s08.trans s9);refine⟨ga,na,_,P_,rfl,rv9,hN9.rep,by simp;have:=hg.n;omega,by omega,λv1 Ha sa n1'=>?_⟩;have s0a:=s08.trans (s9.trans sa);nofun;refine⟨aa,ta,after,taking,rfl,al.same s0a _ hA,(hF.same (s9.trans sa)).rep,by omega,λl hl=>⟨a9 l hl,mz ksm⟩,klen,k9,λv Hb sb nb=>?_⟩;have rvb:=ak.rep (K:=K) nb;obtain⟨ha,rfl⟩:∃ b,v=.ref b:=by obtain⟨b,_,e,_⟩:=ak.news nb;exact⟨b,e⟩
 have s0b:=s0a.trans sb;nofun;exists o,(C 0),dx,_,_,rfl,s0b _ _ hp,Z.Qn,Z.QC,kI _ _ _ _;refine⟨y2,ea,P7,giving,rfl,al.same s0b _ r2,(hE8.same (s9.trans (sa.trans sb))).rep,by have:=hg.l;omega,λl hl=>⟨hg.l9 l hl,mz esm⟩,elen,e9,λv Hc sc nc=>?_⟩;obtain⟨la,rfl,la0,hL⟩:=nc.ls;have s0c:=s0b.trans sc;obtain⟨xs,hxs,lxs⟩:=(hN.same s0c).len;have hLl:=hL.len;obtain⟨bs,hbs,lbs,ibs⟩:=hL;rw[aT]at lbs;nofun;refine dW hxs hbs (br (by rw[aT];have:=hg.l;omega)) λp7 hp7=>?_;have hM:=Ls.more (p:=p7) (bs:=bs) (ms:=P7.map λl=>ck l giving) (hN.same s0c) hxs (by rw[aT];exact lbs) ibs hp7;have t7:=ax hp7 (.lst (xs++bs.map V.ref));nofun;refine⟨ha,p7,_,P_++P7.map λl=>ck l giving,rfl,al.same (sc.trans t7) _ rvb,hM.rep,by simp;omega,by simp;have:=hg.l;omega,λv2 Hd sd nd=>?_⟩;obtain⟨a1,vs1,fa1,rfl,z1,y1',r1',_⟩:=ak.lso n1';obtain⟨a2,vs2,fa2,rfl,z2,y2',r2',_⟩:=ak.lso nd;have l1:=r1'.length;have l2:=r2'.length;simp only[aT]at l1 l2;have sad:=sb.trans (sc.trans (t7.trans sd));nofun;refine dW (sad _ _ y1') y2' (br (by have:=hg.n;omega)) λp8 hp8=>?_;exact q _ _ ((s0a.trans sad).trans (ax hp8 _)) (ak.cat (n1'.back (s08.trans s9)) s0a sad (nd.back (sb.trans (sc.trans t7))) (sad _ _ y1') y2' hp8)
theorem LI{d:Q2}{k j:Rv}(h:H a=some (.lst (l.map V.int)))(h':H c=some (.lst (k.map V.int)))(h2:H d=some (.lst (j.map V.int))):∀(i:Nat) b m,[a,c,d][i]?=some b->[l,k,j][i]?=some m->H b=some (.lst (m.map V.int)):=λi b m e1 e2=>by cases i with
 |zero=>simp at e1 e2;subst e1;subst e2;exact h|succ i=>exact mH h' h2 i b m (by simpa using e1) (by simpa using e2)
inductive AX (K:Fg)(vs:Ry)(H:Hp)(Q:VK)(E:XK):Prop|mk (t na aa la:Q2) (h by':Int) (line:Rv) (P_ after:Rw):vs=[.ref t,.ref na,.ref aa]->aB K H t [.str "part",.int h,.ref la,.int by']->H la=some (.lst (line.map V.int))->line.length=9->(-1000000<by'/\by'<1000000)->Ls H na P_->al K H (bo after) (.ref aa)->P_.length<=100->after.length<=100->(∀ l∈after,l.length=9)->(∀ v H',ae H H'->ak H H' (.lst ((after.map λl=>ck l (bN (cV h (aD 6)))).map λg=>fm g (P_++[jZ line by',bx line by']))) v->Q v H')->AX K vs H Q E
include B Z Q5 Q3 Q3c Q38 Q3a Q3d in
theorem Nf (F:aN K "part_duties" "part_duties" ym f fd)(m:mg "part_duties"=some (.ref f)):Fn P w K mg b8 "part_duties" ["deed","notes","after"] 4 (AX K):=by
 refine bQ F pZ m λ_ _ _ _ H vs Q E hr h=>?_;obtain⟨t,na,aa,la,h,by',line,P_,after,rfl,hT,QF,l9,hby,hN,hA,ln,lf,a9,q⟩:=h;refine⟨_,(av (js 3 pZ.nd (jx K (pv 0) ah))
   (av (js 4 pZ.nd (jx K (pv 0) ah))
   (av (js 5 pZ.nd (jl Q5 hr (dJ (bu (jn 3 (bv (jl Q3 hr (dU (dP rfl B.QM) ag)) ag))) (dJ (bu (jk (iE (dG dL (pv 4)) ag))) ag))))
   (av (js 6 pZ.nd (jl Q5 hr (dJ (bu (bv (jl Q3 hr (dU (dP rfl B.QM) ag)) (bv (jl Q3d hr (bw (aK jJ (pv 4) ah) ag)) (jn 3 ag)))) (dJ (bu (jn 4 (jk (iE (dG dL ah) ag)))) ag))))
   (aw (aF (jl Q38 hr (bv (jl Q3a hr (jn 2 (bv (jl Q3c hr (dE (oi (iZ (jx K (pv 0) ah) (jl Q3 hr (dU (dP rfl B.QM) ag)) oj) rfl rfl (by simp) (by simp)) ag)) ag))) (bw (jp K (pv 1) (bu (jn 5 (jn 6 ag)))) ag))))))))),?_⟩
 left;nofun;refine aP hT (v:=.ref la) (bi (j:=2) rfl) ?_;nofun;left;nofun;refine aP hT (v:=.int by') (bi (j:=3) rfl) ?_;nofun;left;nofun;refine g8 λv H1 s1 n1=>?_;obtain⟨b1,rfl,b10,b11⟩:=ak.iif.mp n1;nofun;refine⟨(by right),λp hp=>?_⟩;have t1:=ax hp (.lst [V.ref la,.ref b1]);nofun;refine⟨(by right),λp2 hp2=>?_⟩;have t2:=ax hp2 (.lst [V.int 1,.int (-by')]);have s02:=s1.trans (t1.trans t2);nofun;refine⟨p,p2,[line,aD 6],[1,-by'],rfl,lQ (bs:=[la,b1]) (t2 _ _ aq) rfl (mH (s02 _ _ QF) ((t1.trans t2) _ _ b11)),ao.of aq,rfl,by simp,λl hl=>?_,λi l w _ e2 n _=>?_,λv H3 s3 n3=>?_⟩
 ·simp at hl;rcases hl with rfl|rfl
  ·exact l9
  ·exact bO 6
 ·have:w=1\/w=-by':=by have:=cq e2;simp at this;exact this
  rcases this with z|z<;>subst z<;>exact .inr ⟨by omega,by omega⟩
 obtain⟨fa,rfl,fa0,fa1⟩:=ak.iif.mp n3;have s03:=s02.trans s3;nofun;left;nofun;refine g8 λv H4 s4 n4=>?_;obtain⟨b2,rfl,b20,b21⟩:=ak.iif.mp n4;nofun;refine ol λv H5 s5 n5=>?_;obtain⟨c2,rfl,c20,c21⟩:=ak.iif.mp n5;nofun;refine⟨(by right),λp3 hp3=>?_⟩;have t3:=ax hp3 (.lst [V.ref b2,.ref c2,.ref la]);nofun;refine⟨(by right),λp4 hp4=>?_⟩;have t4:=ax hp4 (.lst [V.int by',.int 1,.int (-1)]);have s35:=s4.trans (s5.trans (t3.trans t4));nofun;refine⟨p3,p4,[aD 6,kL (by' - 1),line],[by',1,-1],rfl,lQ (bs:=[b2,c2,la]) (t4 _ _ aq) rfl (LI ((s5.trans (t3.trans t4)) _ _ b21) ((t3.trans t4) _ _ c21) ((s03.trans s35) _ _ QF)),ao.of aq,rfl,by simp,λl hl=>?_,λi l w _ e2 n _=>?_,λv H6 s6 n6=>?_⟩
 ·simp at hl;rcases hl with rfl|rfl|rfl
  ·exact bO 6
  ·exact fF _
  ·exact l9
 ·have:w=by'\/w=1\/w=-1:=by have:=cq e2;simp at this;exact this
  rcases this with z|z|z<;>subst z<;>exact .inr ⟨by omega,by omega⟩
 obtain⟨ta,rfl,ta0,ta1⟩:=ak.iif.mp n6;have s36:=s35.trans s6;have s06:=s03.trans s36;nofun;refine nO λdp hdp=>?_;have u0:=ax hdp (.dK []);nofun;refine aP ((s06.trans u0).tup hT) (v:=.int h) (bi (j:=1) rfl) ?_;nofun;refine g8 λv H7 s7 n7=>?_;obtain⟨b3,rfl,b30,b31⟩:=ak.iif.mp n7;nofun;nomatch s7 _ _ aq,[(.inl h,.ref b3)],rfl,by simp
 have b3d:b3≠dp:=λz=>by rw[z,aq]at b30;cases b30
 have s67:ae H6 (upd H7 dp (.dK (eF [] [(.inl h,.ref b3)]))):=(u0.trans s7).put hdp;have s07:=s06.trans s67;nofun;refine⟨dp,_,cV h (aD 6),rfl,aq,vC (bO 6) (by rw[aC b3d];exact b31),λea H8 s8 ea0 hE=>?_⟩;have s08:=s07.trans s8;have m9:∀ l∈bN (cV h (aD 6)),l.length=9:=iJ (λi=>bO i) (om (bO 6));have msm:∀ l∈bN (cV h (aD 6)),Sm l:=iJ (λi=>g_ i) (om (g_ 6));nofun;refine⟨aa,ea,after,bN (cV h (aD 6)),rfl,al.same s08 _ hA,hE.rep,by omega,λl hl=>⟨a9 l hl,mz msm⟩,mK _,m9,λv H9 s9 n9=>?_⟩;have gv:=ak.rep (K:=K) n9;obtain⟨ga,rfl⟩:∃ b,v=.ref b:=by obtain⟨b,_,e,_⟩:=ak.news n9;exact⟨b,e⟩
 have s09:=s08.trans s9;have s69:=s67.trans (s8.trans s9);nofun;refine⟨(by right),λp5 hp5=>?_⟩;have t5:=ax hp5 (.lst [V.ref fa,.ref ta]);obtain⟨xs,hxs,lxs⟩:=(hN.same s09).len;nofun;refine dW (t5 _ _ hxs) aq (br (by simp;omega)) λp6 hp6=>?_;have hL:=Ls.more (p:=p6) (bs:=[fa,ta]) (ms:=[jZ line by',bx line by']) ((hN.same s09).same t5) (t5 _ _ hxs) rfl (mH (t5 _ _ (s69 _ _ (s36 _ _ fa1))) (t5 _ _ (s69 _ _ ta1))) hp6;have t6:=ax hp6 (.lst (xs++[V.ref fa,.ref ta]));have t56:=t5.trans t6;nofun;refine⟨ga,p6,_,P_++[jZ line by',bx line by'],rfl,al.same t56 _ gv,hL.rep,by simp;omega,by simp;omega,λv Ha sa na'=>?_⟩;exact q _ _ (s09.trans (t56.trans sa)) (na'.back (s09.trans t56))
inductive AW (K:Fg)(vs:Ry)(H:Hp)(Q:VK)(E:XK):Prop|mk (t na aa:Q2) (h lo hi:Int) (P_ after:Rw):vs=[.ref t,.ref na,.ref aa]->aB K H t [.str "draw",.int h,.int lo,.int hi]->Ls H na P_->al K H (bo after) (.ref aa)->P_.length<=100->after.length<=100->(∀ l∈after,l.length=9)->(∀ v H',ae H H'->ak H H' (.lst ((after.map λl=>ck l (bN (cV h (aD 6)))).map λg=>fm g (P_++[jQ lo,jM hi]))) v->Q v H')->AW K vs H Q E
include B Z Q5 Q3 Q3c Q38 Q3a Q3d in
theorem Nd (F:aN K "draw_duties" "draw_duties" yl f fd)(m:mg "draw_duties"=some (.ref f)):Fn P w K mg b8 "draw_duties" ["deed","notes","after"] 4 (AW K):=by
 refine bQ F yI m λ_ _ _ _ H vs Q E hr h=>?_;obtain⟨t,na,aa,h,lo,hi,P_,after,rfl,hT,hN,hA,ln,lf,a9,q⟩:=h;refine⟨_,(av (js 3 yI.nd (jl Q5 hr (dJ (bu (bv (jl Q3 hr (dU (dP rfl B.QM) ag)) (bv (jl Q3d hr (bc (jx K (pv 0) ah) ag)) ag))) (dJ (bu (jk (iE (dG dL ah) ag))) ag))))
   (av (js 4 yI.nd (jl Q5 hr (dJ (bu (bv (jl Q3d hr (bc (jx K (pv 0) ah) ag)) (bv (jl Q3 hr (dU (dP rfl B.QM) ag)) ag))) (dJ (bu (jk (iE (dG dL ah) ag))) ag))))
   (aw (aF (jl Q38 hr (bv (jl Q3a hr (jn 2 (bv (jl Q3c hr (dE (oi (iZ (jx K (pv 0) ah) (jl Q3 hr (dU (dP rfl B.QM) ag)) oj) rfl rfl (by simp) (by simp)) ag)) ag))) (bw (jp K (pv 1) (bu (jn 3 (jn 4 ag)))) ag))))))),?_⟩
 obtain⟨c6,hc6⟩:=B.QM;left;nofun;refine g8 λv H1 s1 n1=>?_;obtain⟨b1,rfl,b10,b11⟩:=ak.iif.mp n1;nofun;refine aP (s1.tup hT) (v:=.int lo) (bi (j:=2) rfl) ?_;nofun;refine ol λv H2 s2 n2=>?_;obtain⟨c1,rfl,c10,c11⟩:=ak.iif.mp n2;nofun;refine⟨(by right),λp hp=>?_⟩;have t1:=ax hp (.lst [V.ref b1,.ref c1]);nofun;refine⟨(by right),λp2 hp2=>?_⟩;have t2:=ax hp2 (.lst [V.int 1,.int (-1)]);have s02:=s1.trans (s2.trans (t1.trans t2));nofun;refine⟨p,p2,[aD 6,kL lo],[1,-1],rfl,lQ (bs:=[b1,c1]) (t2 _ _ aq) rfl (mH ((s2.trans (t1.trans t2)) _ _ b11) ((t1.trans t2) _ _ c11)),ao.of aq,rfl,by simp,λl hl=>?_,λi l w _ e2 n _=>?_,λv H3 s3 n3=>?_⟩
 ·simp at hl;rcases hl with rfl|rfl
  ·exact bO 6
  ·exact fF lo
 ·have:w=1\/w=-1:=by have:=cq e2;simp at this;exact this
  rcases this with z|z<;>subst z<;>exact .inr ⟨by decide,by decide⟩
 obtain⟨fa,rfl,fa0,fa1⟩:=ak.iif.mp n3;have s03:=s02.trans s3;nofun;left;nofun;refine aP (s03.tup hT) (v:=.int hi) (bi (j:=3) rfl) ?_;nofun;refine ol λv H4 s4 n4=>?_;obtain⟨c2,rfl,c20,c21⟩:=ak.iif.mp n4;nofun;refine g8 λv H5 s5 n5=>?_;obtain⟨b2,rfl,b20,b21⟩:=ak.iif.mp n5;nofun;refine⟨(by right),λp3 hp3=>?_⟩;have t3:=ax hp3 (.lst [V.ref c2,.ref b2]);nofun;refine⟨(by right),λp4 hp4=>?_⟩;have t4:=ax hp4 (.lst [V.int 1,.int (-1)]);have s35:=s4.trans (s5.trans (t3.trans t4));nofun;refine⟨p3,p4,[kL hi,aD 6],[1,-1],rfl,lQ (bs:=[c2,b2]) (t4 _ _ aq) rfl (mH ((s5.trans (t3.trans t4)) _ _ c21) ((t3.trans t4) _ _ b21)),ao.of aq,rfl,by simp,λl hl=>?_,λi l w _ e2 n _=>?_,λv H6 s6 n6=>?_⟩
 ·simp at hl;rcases hl with rfl|rfl
  ·exact fF hi
  ·exact bO 6
 ·have:w=1\/w=-1:=by have:=cq e2;simp at this;exact this
  rcases this with z|z<;>subst z<;>exact .inr ⟨by decide,by decide⟩
 obtain⟨ta,rfl,ta0,ta1⟩:=ak.iif.mp n6;have s36:=s35.trans s6;have s06:=s03.trans s36;nofun;refine nO λdp hdp=>?_;have u0:=ax hdp (.dK []);nofun;refine aP ((s06.trans u0).tup hT) (v:=.int h) (bi (j:=1) rfl) ?_;nofun;refine g8 λv H7 s7 n7=>?_;obtain⟨b3,rfl,b30,b31⟩:=ak.iif.mp n7;nofun;nomatch s7 _ _ aq,[(.inl h,.ref b3)],rfl,by simp
 have b3d:b3≠dp:=λz=>by rw[z,aq]at b30;cases b30
 have s67:ae H6 (upd H7 dp (.dK (eF [] [(.inl h,.ref b3)]))):=(u0.trans s7).put hdp;have s07:=s06.trans s67;nofun;refine⟨dp,_,cV h (aD 6),rfl,aq,vC (bO 6) (by rw[aC b3d];exact b31),λea H8 s8 ea0 hE=>?_⟩;have s08:=s07.trans s8;have m9:∀ l∈bN (cV h (aD 6)),l.length=9:=iJ (λi=>bO i) (om (bO 6));have msm:∀ l∈bN (cV h (aD 6)),Sm l:=iJ (λi=>g_ i) (om (g_ 6));nofun;refine⟨aa,ea,after,bN (cV h (aD 6)),rfl,al.same s08 _ hA,hE.rep,by omega,λl hl=>⟨a9 l hl,mz msm⟩,mK _,m9,λv H9 s9 n9=>?_⟩;have gv:=ak.rep (K:=K) n9;obtain⟨ga,rfl⟩:∃ b,v=.ref b:=by obtain⟨b,_,e,_⟩:=ak.news n9;exact⟨b,e⟩
 have s09:=s08.trans s9;have s69:=s67.trans (s8.trans s9);nofun;refine⟨(by right),λp5 hp5=>?_⟩;have t5:=ax hp5 (.lst [V.ref fa,.ref ta]);obtain⟨xs,hxs,lxs⟩:=(hN.same s09).len;nofun;refine dW (t5 _ _ hxs) aq (br (by simp;omega)) λp6 hp6=>?_;have hL:=Ls.more (p:=p6) (bs:=[fa,ta]) (ms:=[jQ lo,jM hi]) ((hN.same s09).same t5) (t5 _ _ hxs) rfl (mH (t5 _ _ (s69 _ _ (s36 _ _ fa1))) (t5 _ _ (s69 _ _ ta1))) hp6;have t6:=ax hp6 (.lst (xs++[V.ref fa,.ref ta]));have t56:=t5.trans t6;nofun;refine⟨ga,p6,_,P_++[jQ lo,jM hi],rfl,al.same t56 _ gv,hL.rep,by simp;omega,by simp;omega,λv Ha sa na'=>?_⟩;exact q _ _ (s09.trans (t56.trans sa)) (na'.back (s09.trans t56))
inductive AV (K:Fg)(vs:Ry)(H:Hp)(Q:VK)(E:XK):Prop|mk (la na ta aa:Q2) (line:Rv) (P_ there after:Rw):vs=[.ref la,.ref na,.ref ta,.ref aa]->H la=some (.lst (line.map V.int))->line.length=9->Ls H na P_->al K H (bo there) (.ref ta)->al K H (bo after) (.ref aa)->P_.length<=100->there.length<=100->after.length<=100->(∀ v H',ae H H'->ak H H' (.lst ((there.map λg=>fm g (P_++[line]))++after.map λg=>fm g (P_++[jG line]))) v->Q v H')->AV K vs H Q E
include B Z Q5 Q38 Q3d in
theorem Nc (F:aN K "turn_duties" "turn_duties" yk f fd)(m:mg "turn_duties"=some (.ref f)):Fn P w K mg b8 "turn_duties" ["line","notes","there","after"] 3 (AV K):=by
 refine bQ F Fj m λ_ _ _ _ H vs Q E hr h=>?_;obtain⟨la,na,ta,aa,line,P_,there,after,rfl,QF,l9,hN,hT,hA,ln,lt,lf,q⟩:=h;refine⟨_,(av (js 4 Fj.nd (jl Q5 hr (dJ (bu (jn 0 (bv (jl Q3d hr (jk ag)) ag))) (dJ (bu (iE (dG dL ah) (iE (dG dL ah) ag))) ag))))
   (aw (aF (jp K (jl Q38 hr (jn 2 (bw (jp K (pv 1) (bu (jn 0 ag))) ag))) (jl Q38 hr (jn 3 (bw (jp K (pv 1) (bu (jn 4 ag))) ag))))))),?_⟩
 left;nofun;refine ol λv H1 s1 n1=>?_;obtain⟨ca,rfl,ca0,ca1⟩:=ak.iif.mp n1;nofun;refine⟨(by right),λp hp=>?_⟩;have t1:=ax hp (.lst [V.ref la,.ref ca]);nofun;refine⟨(by right),λp2 hp2=>?_⟩;have t2:=ax hp2 (.lst [V.int (-1),.int (-1)]);have s12:=s1.trans (t1.trans t2);nofun;refine⟨p,p2,[line,kL 1],[-1,-1],rfl,lQ (bs:=[la,ca]) (t2 _ _ aq) rfl (mH (s12 _ _ QF) ((t1.trans t2) _ _ ca1)),ao.of aq,rfl,by simp,λl hl=>?_,λi l w _ e2 n _=>?_,λv H2 s2 n2=>?_⟩
 ·simp at hl;rcases hl with rfl|rfl
  ·exact l9
  ·exact fF 1
 ·have:w=-1:=by have:=cq e2;simp at this;exact this
  subst this;exact .inr ⟨by decide,by decide⟩
 obtain⟨ba,rfl,ba0,ba1⟩:=ak.iif.mp n2;have sA:=s12.trans s2;obtain⟨xs,hxs,lxs⟩:=(hN.same sA).len;nofun;refine⟨(by right),λp3 hp3=>?_⟩;have t3:=ax hp3 (.lst [V.ref la]);nofun;refine dW (t3 _ _ hxs) aq (br (by simp;omega)) λp4 hp4=>?_;have hL4:=Ls.more (p:=p4) (bs:=[la]) (ms:=[line]) ((hN.same sA).same t3) (t3 _ _ hxs) rfl (ou (t3 _ _ (sA _ _ QF))) hp4;have t4:=ax hp4 (.lst (xs++[V.ref la]));have sB:=sA.trans (t3.trans t4);nofun;refine⟨ta,p4,there,P_++[line],rfl,al.same sB _ hT,hL4.rep,by omega,by simp;omega,λv1 H3 s3 n3=>?_⟩;have sC:=sB.trans s3;have sAC:=(t3.trans t4).trans s3;nofun;refine⟨(by right),λp5 hp5=>?_⟩;have t5:=ax hp5 (.lst [V.ref ba]);nofun;refine dW (t5 _ _ (sAC _ _ hxs)) aq (br (by simp;omega)) λp6 hp6=>?_;have hL6:=Ls.more (p:=p6) (bs:=[ba]) (ms:=[jG line]) ((hN.same sC).same t5) (t5 _ _ (sAC _ _ hxs)) rfl (ou (t5 _ _ (sAC _ _ ba1))) hp6;have t6:=ax hp6 (.lst (xs++[V.ref ba]));have t56:=t5.trans t6;nofun;refine⟨aa,p6,after,P_++[jG line],rfl,al.same (sC.trans t56) _ hA,hL6.rep,by omega,by simp;omega,λv2 H4 s4 n4=>?_⟩;obtain⟨a1,vs1,f1,rfl,z1,y1,r1,_⟩:=ak.lso n3;obtain⟨a2,vs2,f2,rfl,z2,y2,r2,_⟩:=ak.lso n4;have l1:=r1.length;have l2:=r2.length;simp only[aT]at l1 l2;have sD:=t56.trans s4;nofun;refine dW (sD _ _ y1) y2 (br (by omega)) λp7 hp7=>?_;exact q _ _ ((sC.trans sD).trans (ax hp7 _)) (ak.cat (n3.back sB) sC sD (n4.back t56) (sD _ _ y1) y2 hp7)
theorem Je:decide (("part":Str)="set")=false/\decide (("draw":Str)="set")=false/\decide (("draw":Str)="part")=false/\decide (("turn":Str)="set")=false/\decide (("turn":Str)="part")=false/\decide (("turn":Str)="draw")=false/\decide (("hold":Str)="set")=false/\decide (("hold":Str)="part")=false/\decide (("hold":Str)="draw")=false/\decide (("hold":Str)="turn")=false/\decide (("call":Str)="set")=false/\decide (("call":Str)="part")=false/\decide (("call":Str)="draw")=false/\decide (("call":Str)="turn")=false/\decide (("call":Str)="hold")=false:=by decide+kernel
inductive AY (K:Fg)(C:Nat->Q2)(vs:Ry)(H:Hp)(Q:VK)(E:XK):Prop|mk (p ca:Q2) (place:Nat) (Qg P7:Rw) (P9:List Dd) (P_:Rx) (kvs:List (bj×V)) (oath:cB) (d:Dd):vs=[.ref p,.int place,.ref ca]->iR K (C 0) H p Qg P7 P9 P_->fX Qg P7 P9.length P_->P9[place]?=some d->oP P9.length d->H ca=some (.dK kvs)->calls K (C 0) H kvs oath d->(∀ v H',ae H H'->ak H H' (.lst (kB (aH P7 P_ place) (aH P7 P_ (place+1)) (aH P7 P_) oath d)) v->Q v H')->AY K C vs H Q E
include B Z Q3c Q38 Q3a Q29 in
theorem Nb (Q36:Fn P w K mg b8 "call_duties" ["deed","notes","after","other"] 4 (AU K C))(Q30:Fn P w K mg b8 "part_duties" ["deed","notes","after"] 4 (AX K))(Q32:Fn P w K mg b8 "draw_duties" ["deed","notes","after"] 4 (AW K))(Q34:Fn P w K mg b8 "turn_duties" ["line","notes","there","after"] 3 (AV K))(F:aN K "deed_duties" "deed_duties" yn f fd)(m:mg "deed_duties"=some (.ref f)):Fn P w K mg b8 "deed_duties" ["craft","place","crafts"] 5 (AY K C):=by
 refine bQ F p_ m λ_ _ _ _ H vs Q E hr h=>?_;obtain⟨p,ca,place,Qg,P7,P9,P_,kvs,oath,d,rfl,hT,hg,hd,ok,hca,hcl,q⟩:=h;refine⟨_,(av (js 3 p_.nd (jx K (jf K 0) (pv 1)))
   (av (js 4 p_.nd (jl Q29 hr (jn 0 (jn 1 ag))))
   (av (js 5 p_.nd (jl Q29 hr (jn 0 (bw (jp K (pv 1) ah) ag))))
   (av (js 6 p_.nd (jx K (pv 3) ah))
   (av (bb (jt K hr (pv 6) bJ) (aw (aF (jl Q38 hr (bv (jl Q3a hr (jn 5 (bv (jl Q3c hr (dE (oi (iZ (jx K (pv 3) ah) (jx K (pv 3) ah) oj) rfl rfl (by simp) (by simp)) ag)) ag))) (jn 4 ag))))) bp)
   (av (bb (jt K hr (pv 6) bJ) (aw (aF (jl Q30 hr (jn 3 (jn 4 (jn 5 ag)))))) bp)
   (av (bb (jt K hr (pv 6) bJ) (aw (aF (jl Q32 hr (jn 3 (jn 4 (jn 5 ag)))))) bp)
   (av (bb (jt K hr (pv 6) bJ) (aw (aF (jl Q34 hr (bc (jx K (pv 3) ah) (jn 4 (bv (jl Q29 hr (jn 0 (bc (jx K (pv 3) ah) ag))) (jn 5 ag))))))) bp)
   (av (bb (jt K hr (pv 6) bJ) (aw (aF (jp K (jl Q38 hr (dJ (bu (bc (jx K (pv 3) ah) ag)) (jn 4 ag))) (jl Q38 hr (jn 5 (bw (jp K (pv 4) (bu (bc (jx K (pv 3) ah) ag))) ag)))))) bp)
   (aw (aF (jl Q36 hr (jn 3 (jn 4 (jn 5 (bc (jU (bS hr) (pv 2) (jx K (pv 3) ah) (λ_ _=>rfl)) ag)))))))))))))))),?_⟩
 obtain⟨k1,k2,k3,k4,k5,k6,k7,k8,k9,k10,k11,k12,k13,k14,k15⟩:=Je;have lp:place<P9.length:=(d7.mp hd).1;obtain⟨hC,dx,w1,w2,bd,w4,Qy,hp,hbd,hD⟩:=hT;obtain⟨x,hx,rx⟩:=R2.get hD lp;rw[Om lp]at hd;cases hd;generalize hdd:P9[place]=d at rx ok hcl q;obtain⟨t,ys,rfl,htup⟩:=tG rx;left;nofun;exists p,(C 0),dx,_,_,rfl,hp,Z.Qn,Z.Qt,iq _ _ _ _;refine bK (ao.of hbd) (v:=.ref t) (bi hx) ?_;nofun;have due:∀{Hx:Hp}{Q':VK}(k:Int),ae H Hx->0<=k->k<=(P9.length:Int)->(∀ a H',ae Hx H'->Hx a=none->Ls H' a (aH P7 P_ k)->Q' (.ref a) H')->uQ K C [.ref p,.int k] Hx Q' E0:=λ{Hx Q'} k s k0 kn hq=>⟨p,k,Qg,P7,P9.map cT,P_,rfl,hC.same s,k0,by rw[aT];exact kn,by rw[aT];exact hg.dn,by rw[aT];have:=hg.d;omega,by have:=hg.l;omega,hg.l9,λls hl=>by have:=(hg.o ls hl).1;omega,λv H' s' n'=>by obtain⟨a,rfl,a0,hL⟩:=n'.ls;exact hq a H' s' a0 hL⟩
 left;nofun;refine due _ (ae.refl _) (by omega) (by omega) λna H1 s1 na0 hN=>?_;nofun;left;nofun;refine due _ s1 (by omega) (by omega) λaa H2 s2 aa0 hA=>?_;have s02:=s1.trans s2;have hN2:=hN.same s2;have gN:=hg.due (place:Int);have gA:=hg.due ((place:Int)+1);have h2:=s02 _ _ htup;nofun;left;nofun;refine aP (aB.of h2) db ?_;nofun;have rx2:iI H2 (cT d) (.ref t):=rx.sq s02.sq;generalize aH P7 P_ (place:Int)=N at hN2 gN q;generalize aH P7 P_ ((place:Int)+1)=A at hA gA q;cases d with
 |set h l=>
  refine fe λG kG=>?_;obtain⟨t',xs,et,hT2,px⟩:=fQ rx2;cases et;obtain⟨x0,r,rfl,e0,px⟩:=bR px;obtain⟨x1,r,rfl,e1,px⟩:=bR px;obtain⟨x2,r,rfl,e2,px⟩:=bR px;cases i7 px;cases gz e0;cases eY e1;obtain⟨b2,rfl,hb2⟩:=lP e2;refine kG ?_;with_reducible refine pq (λQ2 q2=>?_) (λNX=>?_)
  ·nofun;rw[Og (show dM (Dd.set h l)="set" from rfl)];exact q2
  nofun;refine nO λdp hdp=>?_;have u0:=ax hdp (.dK []);nofun;refine aP (aB.of (u0 _ _ hT2)) (v:=.int h) (bi (j:=1) rfl) ?_;nofun;refine aP (aB.of (u0 _ _ hT2)) (v:=.ref b2) (bi (j:=2) rfl) ?_;nofun;nomatch aq,[(.inl h,.ref b2)],rfl,by simp
  have s23:ae H2 (upd (upd H2 dp (.dK [])) dp (.dK (eF [] [(.inl h,.ref b2)]))):=u0.put hdp;nofun;refine⟨dp,_,cV h l,rfl,aq,vC ok.1 (s23 _ _ hb2),λea H4 s4 ea0 hE=>?_⟩;have s24:=s23.trans s4;nofun;refine⟨aa,ea,A,bN (cV h l),rfl,(hA.same s24).rep,hE.rep,by omega,λz hz=>⟨gA.2 z hz,mz (iJ (λi=>g_ i) (om ok.2))⟩,mK _,iJ (λi=>bO i) (om ok.1),λv H5 s5 n5=>?_⟩;have rv:=ak.rep (K:=K) n5;obtain⟨ga,rfl⟩:∃ b,v=.ref b:=by obtain⟨b,_,e,_⟩:=ak.news n5;exact⟨b,e⟩
  have s25:=s24.trans s5;nofun;refine⟨ga,na,_,N,rfl,rv,(hN2.same s25).rep,by simp;omega,by omega,λv H6 s6 n6=>?_⟩;exact q _ _ (s02.trans (s25.trans s6)) (n6.back (s02.trans s25))|part h l b=>
  refine fe λG kG=>?_;obtain⟨t',xs,et,hT2,px⟩:=fQ rx2;cases et;obtain⟨x0,r,rfl,e0,px⟩:=bR px;obtain⟨x1,r,rfl,e1,px⟩:=bR px;obtain⟨x2,r,rfl,e2,px⟩:=bR px;obtain⟨x3,r,rfl,e3,px⟩:=bR px;cases i7 px;cases gz e0;cases eY e1;obtain⟨b2,rfl,hb2⟩:=lP e2;cases eY e3;refine kG ?_;with_reducible refine gi (λQ2 q2=>?_) ?_
  ·nofun;rw[show decide (dM (Dd.part h l b)="set")=false from k1];exact q2
  with_reducible refine pq (λQ2 q2=>?_) (λNX=>?_)
  ·nofun;rw[Og (show dM (Dd.part h l b)="part" from rfl)];exact q2
  nofun;refine⟨t,na,aa,b2,h,b,l,N,A,rfl,aB.of hT2,hb2,ok.1,ok.2,hN2,hA.rep,by omega,by omega,gA.2,λv H3 s3 n3=>?_⟩;exact q _ _ (s02.trans s3) (n3.back s02)|draw h lo hi=>
  refine fe λG kG=>?_;obtain⟨t',xs,et,hT2,px⟩:=fQ rx2;cases et;obtain⟨x0,r,rfl,e0,px⟩:=bR px;obtain⟨x1,r,rfl,e1,px⟩:=bR px;obtain⟨x2,r,rfl,e2,px⟩:=bR px;obtain⟨x3,r,rfl,e3,px⟩:=bR px;cases i7 px;cases gz e0;cases eY e1;cases eY e2;cases eY e3;refine kG ?_;with_reducible refine gi (λQ2 q2=>?_) ?_
  ·nofun;rw[show decide (dM (Dd.draw h lo hi)="set")=false from k2];exact q2
  with_reducible refine gi (λQ2 q2=>?_) ?_
  ·nofun;rw[show decide (dM (Dd.draw h lo hi)="part")=false from k3];exact q2
  with_reducible refine pq (λQ2 q2=>?_) (λNX=>?_)
  ·nofun;rw[Og (show dM (Dd.draw h lo hi)="draw" from rfl)];exact q2
  nofun;refine⟨t,na,aa,h,lo,hi,N,A,rfl,aB.of hT2,hN2,hA.rep,by omega,by omega,gA.2,λv H3 s3 n3=>?_⟩;exact q _ _ (s02.trans s3) (n3.back s02)|turn l p2=>
  refine fe λG kG=>?_;obtain⟨t',xs,et,hT2,px⟩:=fQ rx2;cases et;obtain⟨x0,r,rfl,e0,px⟩:=bR px;obtain⟨x1,r,rfl,e1,px⟩:=bR px;obtain⟨x2,r,rfl,e2,px⟩:=bR px;cases i7 px;cases gz e0;obtain⟨b1,rfl,hb1⟩:=lP e1;cases eY e2;refine kG ?_;with_reducible refine gi (λQ2 q2=>?_) ?_
  ·nofun;rw[show decide (dM (Dd.turn l p2)="set")=false from k4];exact q2
  with_reducible refine gi (λQ2 q2=>?_) ?_
  ·nofun;rw[show decide (dM (Dd.turn l p2)="part")=false from k5];exact q2
  with_reducible refine gi (λQ2 q2=>?_) ?_
  ·nofun;rw[show decide (dM (Dd.turn l p2)="draw")=false from k6];exact q2
  with_reducible refine pq (λQ2 q2=>?_) (λNX=>?_)
  ·nofun;rw[Og (show dM (Dd.turn l p2)="turn" from rfl)];exact q2
  nofun;refine aP (aB.of hT2) (v:=.ref b1) (bi (j:=1) rfl) ?_;nofun;refine aP (aB.of hT2) (v:=.int p2) (bi (j:=2) rfl) ?_;nofun;refine due _ s02 ok.2.1 ok.2.2 λta H3 s3 ta0 hTh=>?_;have gT:=hg.due p2;have s03:=s02.trans s3;nofun;refine⟨b1,na,ta,aa,l,N,_,A,rfl,s3 _ _ hb1,ok.1,hN2.same s3,hTh.rep,(hA.same s3).rep,by omega,by omega,by omega,λv H4 s4 n4=>?_⟩;exact q _ _ (s03.trans s4) (n4.back s03)|hold l=>
  refine fe λG kG=>?_;obtain⟨t',xs,et,hT2,px⟩:=fQ rx2;cases et;obtain⟨x0,r,rfl,e0,px⟩:=bR px;obtain⟨x1,r,rfl,e1,px⟩:=bR px;cases i7 px;cases gz e0;obtain⟨b1,rfl,hb1⟩:=lP e1;refine kG ?_;with_reducible refine gi (λQ2 q2=>?_) ?_
  ·nofun;rw[show decide (dM (Dd.hold l)="set")=false from k7];exact q2
  with_reducible refine gi (λQ2 q2=>?_) ?_
  ·nofun;rw[show decide (dM (Dd.hold l)="part")=false from k8];exact q2
  with_reducible refine gi (λQ2 q2=>?_) ?_
  ·nofun;rw[show decide (dM (Dd.hold l)="draw")=false from k9];exact q2
  with_reducible refine gi (λQ2 q2=>?_) ?_
  ·nofun;rw[show decide (dM (Dd.hold l)="turn")=false from k10];exact q2
  with_reducible refine pq (λQ2 q2=>?_) (λNX=>?_)
  ·nofun;rw[Og (show dM (Dd.hold l)="hold" from rfl)];exact q2
  nofun;refine aP (aB.of hT2) (v:=.ref b1) (bi (j:=1) rfl) ?_;nofun;refine⟨(by right),λp3 hp3=>?_⟩;have t3:=ax hp3 (.lst [V.ref b1]);nofun;refine⟨p3,na,[l],N,rfl,lQ (bs:=[b1]) aq rfl (ou (t3 _ _ hb1)),(hN2.same t3).rep,by simp,by omega,λv1 H3 s3 n3=>?_⟩;have s23:=t3.trans s3;nofun;refine aP (aB.of (s23 _ _ hT2)) (v:=.ref b1) (bi (j:=1) rfl) ?_;nofun;refine⟨(by right),λp5 hp5=>?_⟩;have t5:=ax hp5 (.lst [V.ref b1]);obtain⟨xs,hxs,lxs⟩:=(hN2.same s23).len;nofun;refine dW (t5 _ _ hxs) aq (br (by simp;omega)) λp6 hp6=>?_;have hL6:=Ls.more (p:=p6) (bs:=[b1]) (ms:=[l]) ((hN2.same s23).same t5) (t5 _ _ hxs) rfl (ou (t5 _ _ (s23 _ _ hb1))) hp6;have t6:=ax hp6 (.lst (xs++[V.ref b1]));have t56:=t5.trans t6;nofun;refine⟨aa,p6,A,N++[l],rfl,(hA.same (s23.trans t56)).rep,hL6.rep,by omega,by simp;omega,λv2 H4 s4 n4=>?_⟩;obtain⟨a1,vs1,f1,rfl,z1,y1,r1,_⟩:=ak.lso n3;obtain⟨a2,vs2,f2,rfl,z2,y2,r2,_⟩:=ak.lso n4;have l1:=r1.length;have l2:=r2.length;simp only[aT]at l1 l2;have sD:=t56.trans s4;nofun;refine dW (sD _ _ y1) y2 (br (by simp at l1;omega)) λp7 hp7=>?_;exact q _ _ ((s02.trans (s23.trans sD)).trans (ax hp7 _)) (ak.cat (n3.back (s02.trans t3)) (s02.trans s23) sD (n4.back t56) (sD _ _ y1) y2 hp7)|call m g0 g1 t0 t1=>
  refine fe λG kG=>?_;obtain⟨t',xs,et,hT2,px⟩:=fQ rx2;cases et;obtain⟨x0,r,rfl,e0,px⟩:=bR px;obtain⟨x1,r,rfl,e1,px⟩:=bR px;obtain⟨x2,r,rfl,e2,px⟩:=bR px;obtain⟨x3,r,rfl,e3,px⟩:=bR px;cases i7 px;cases gz e0;cases eY e1;obtain⟨b2,rfl,hb2⟩:=ub e2;obtain⟨b3,rfl,hb3⟩:=ub e3;refine kG ?_;with_reducible refine gi (λQ2 q2=>?_) ?_
  ·nofun;rw[show decide (dM (Dd.call m g0 g1 t0 t1)="set")=false from k11];exact q2
  with_reducible refine gi (λQ2 q2=>?_) ?_
  ·nofun;rw[show decide (dM (Dd.call m g0 g1 t0 t1)="part")=false from k12];exact q2
  with_reducible refine gi (λQ2 q2=>?_) ?_
  ·nofun;rw[show decide (dM (Dd.call m g0 g1 t0 t1)="draw")=false from k13];exact q2
  with_reducible refine gi (λQ2 q2=>?_) ?_
  ·nofun;rw[show decide (dM (Dd.call m g0 g1 t0 t1)="turn")=false from k14];exact q2
  with_reducible refine gi (λQ2 q2=>?_) ?_
  ·nofun;rw[show decide (dM (Dd.call m g0 g1 t0 t1)="hold")=false from k15];exact q2
  obtain⟨o,od,ons,hv,hO,hgo⟩:=hcl;nofun;refine aP (aB.of hT2) (v:=.int m) (bi (j:=1) rfl) ?_;nofun;refine⟨ca,.ref o,rfl,by rw[<-hv];exact bh.k (k:=.inl m) (s02 _ _ hca),?_⟩;nofun;refine⟨t,na,aa,o,b2,b3,m,g0,g1,t0,t1,N,A,_,_,od,ons,rfl,aB.of hT2,aB.of hb2,aB.of hb3,hN2,hA.rep,by omega,by omega,gN.2,gA.2,hO.same s02,hgo,λv H3 s3 n3=>?_⟩;exact q _ _ (s02.trans s3) (n3.back s02)
inductive A0 (K:Fg)(C:Nat->Q2)(vs:Ry)(H:Hp)(Q:VK)(E:XK):Prop|mk (p ca:Q2) (Qg P7:Rw) (P9:List Dd) (P_:Rx) (kvs:List (bj×V)) (oath:cB):vs=[.ref p,.ref ca]->iR K (C 0) H p Qg P7 P9 P_->fX Qg P7 P9.length P_->(∀ d∈P9,oP P9.length d)->H ca=some (.dK kvs)->(∀ m∈cK P9,m.natAbs<fE)->(((∃ m∈cK P9,aG kvs (.inl m)=none)/\∀ H',ae H H'->E (.ref (C 4)) none H')\/
   ((∀ m∈cK P9,(aG kvs (.inl m)).isSome=true)/\(∀ d∈P9,calls K (C 0) H kvs oath d)/\(pD Qg P7 P9 P_ oath).length<=1000/\∀ v H',ae H H'->ak H H' (.lst (pD Qg P7 P9 P_ oath)) v->Q v H'))->A0 K C vs H Q E
variable (Q10:Fn P w K mg b8 "called_by" ["craft"] 1 (Qf K C))
include B Z Q10 in
theorem Jn (Q2c:Fn P w K mg b8 "first_duties" ["craft"] 4 (AZ K C))(Q2e:Fn P w K mg b8 "deed_duties" ["craft","place","crafts"] 5 (AY K C))(F:aN K "duties" "duties" xb f fd)(m:mg "duties"=some (.ref f)):uY P w K mg b8 "duties" ["craft","crafts"] 6 (A0 K C):=by
 refine N5 F tZ m λ_ _ _ _ H vs Q E hr h=>?_;obtain⟨p,ca,Qg,P7,P9,P_,kvs,oath,rfl,hT,hg,hok,hca,hm,hc⟩:=h;refine⟨_,(av (gx PassesOwn.leaving rfl (c_ K (jl Q10 hr (jn 0 ag))) (jg 2 tZ.nd) (aw (bb (lF (oG (bS hr) (pv 2) (pv 1))) (aw (pM Z.Rj rfl Z.Rh rfl pI (dE (By (pv 2) (by decide+kernel) (by decide+kernel)) ag))) bp)))
   (av (js 3 tZ.nd (jl Q2c hr (jn 0 ag)))
   (av (gx PassesOwn.leaving rfl (hU rfl B.range (bv (b9 (dw K) rfl B.len L2.boot_len (dD (jf K 0) ag)) ag)) (jg 4 tZ.nd) (aw (dA (nE PM PySem.F.slot_list_extend PySem.F.type_list_extend Ef (pv 3) (bv (jl Q2e hr (jn 0 (jn 4 (jn 1 ag)))) ag)))))
   (aw (aF (pv 3)))))),?_⟩
 have hT0:=hT;obtain⟨hC,dx,w1,w2,bd,w4,Qy,hp,hbd,hD⟩:=hT;left;nofun;refine⟨p,dx,bd,w1,w2,w4,Qy,P9,rfl,hp,hbd,hD,by have:=hg.d;omega,λv H1 s1 n1=>?_⟩;obtain⟨la,rfl,la0,la1⟩:=ak.iif.mp n1;have lc:(cK P9).length<=P9.length:=List.length_filterMap_le _ _;nomatch la,rfl,⟨_,ao.of la1⟩;refine oh (dO (ao.of la1)) (λi σ H2=>∃ x,A3 (σ=[some (.ref p),some (.ref ca),x,none,none]) (ae H1 H2) (∀ m∈(cK P9).take i,(aG kvs (.inl m)).isSome=true))
  ⟨none,rfl,ae.refl _,λm hm=>by simp at hm⟩ (λi σ H2 ⟨_,_,e,_⟩=>e) ?_ ?_
 ·rintro i v σ H2 H3 hi ⟨x,rfl,s2,hpre⟩ s3 hv;rw[aM]at hv;obtain⟨m,hm',rfl⟩:=bV.mp hv;have mm:=cq hm';have s03:=s1.trans (s2.trans s3);nofun;nomatch ca,_,rfl,bh.k (k:=.inl m) (s03 _ _ hca);cases hv':aG kvs (.inl m)with
  |none=>
   nofun;refine fZ (λ_=>?_) (λz=>by cases z);nofun;refine⟨hm m mm,λz=>?_⟩;nofun;nomatch (by right);rcases hc with⟨_,hE⟩|⟨hB,_⟩
   ·exact hE _ s03
   ·have:=hB m mm;rw[hv']at this;cases this|some y=>
   nofun;refine fZ (λz=>by cases z) (λ_=>?_);nofun;refine⟨_,rfl,s2.trans s3,λk hk=>?_⟩;rw[O5,hm']at hk;rcases bW.mp hk with hk|hk
   ·exact hpre k hk
   ·simp at hk;subst hk;rw[hv'];rfl
 rintro σ H2 ⟨x,rfl,s2,hall⟩;rw[aT,Oy (On _)]at hall;rcases hc with⟨⟨m,mm,hn⟩,_⟩|⟨_,hcl,hlen,q⟩
 ·have:=hall m mm;rw[hn]at this;cases this
 have s02:=s1.trans s2;left;nofun;refine⟨p,Qg,P7,P9.map cT,P_,rfl,hC.same s02,by rw[aT];exact hg,λv H3 s3 n3=>?_⟩;have s03:=s02.trans s3;obtain⟨ta,tvs,rfl,ta0,ac⟩:=(n3.back s02).acc;nofun;left;nofun;exists p,(C 0),dx,_,_,rfl,s03 _ _ hp,Z.Qn,Z.Qt,iq _ _ _ _;refine dF (.inl (ao.of (s03 _ _ hbd))) ?_;rw[<-hD.1];refine hJ (by omega) (by have:=hg.d;omega) ?_;refine pJ (λi σ H4=>∃ x y vs,i<=P9.length/\σ=[some (.ref p),some (.ref ca),x,some (.ref ta),y]/\ae H H4/\cE H H4/\fk H ta H4 (o7 Qg P7 P_++ip P7 P_ oath (P9.take i) 0) vs)
  ⟨_,none,tvs,O2 _,rfl,s03,s03.fr,by rw[List.take_zero];show fk H ta H3 (_++[]) tvs;rw[OP];exact ac⟩ ?_ ?_
 ·rintro i σ H4 hi ⟨x',y,vs,him,rfl,s4,f4,ac4⟩;have hi':i<P9.length:=by have:i<((P9.length:Int)).toNat:=hi;omega
  have eT:P9=P9.take i++P9[i]::P9.drop (i+1):=by rw[List.getElem_cons_drop,List.take_append_drop]
  have eS:P9.take (i+1)=P9.take i++[P9[i]]:=by rw[O5,Om hi'];rfl
  have step:ip P7 P_ oath (P9.take (i+1)) 0=ip P7 P_ oath (P9.take i) 0++kB (aH P7 P_ i) (aH P7 P_ ((i:Int)+1)) (aH P7 P_) oath P9[i]:=by rw[eS,xQ];congr 1;show kB _ _ _ _ _++[]=_;rw[OP,O0,Nat.zero_add,Nat.min_eq_left (by omega)]
  have short:(o7 Qg P7 P_++ip P7 P_ oath (P9.take (i+1)) 0).length<=1000:=by refine OI ?_ hlen;unfold pD;have:=xQ P7 P_ oath (P9.take (i+1)) (P9.drop (i+1)) 0;rw[List.take_append_drop]at this;rw[this];simp only[OA];omega
  nofun;exists lS ac4.get;rw[Int.zero_add];refine⟨p,ca,i,Qg,P7,P9,P_,kvs,oath,P9[i],rfl,iR.same s4 hT0,hg,Om hi',hok _ (OO hi'),s4 _ _ hca,(hcl _ (OO hi')).same s4,λv H5 s5 n5=>?_⟩;obtain⟨b,zs,rfl,b0,ab⟩:=n5.acc;have lz:=ab.len;have lv:=ac4.len;nofun;nomatch ta,b,vs,zs,rfl,rfl,s5 _ _ ac4.get,ab.get,?_
  ·rw[step]at short;simp only[OA]at short lv;exact br (by omega)
  ·nomatch _,_,vs++zs,hi',rfl,(s4.trans s5).put ta0,f4.trans (s5.fr.trans j0);rw[step,<-OW];exact ac4.ext f4 s5 n5 ab.get
 ·rintro σ H4 ⟨x',y,vs,him,rfl,s4,f4,ac4⟩;nofun;refine q _ _ s4 ?_;rw[show((P9.length:Int)).toNat=P9.length by omega,Oy (On _)]at ac4;exact ac4.new ta0
def CB (w:Int):Prop:=-(2 ^ 62)<w/\w<2 ^ 62
def DA (K:Fg):Sp:=λvs H Q _=>(∃ d,vs=[d,.non]/\Q (.bl false) H)\/∃(d r ga ha wa:Q2) (Qw:Rv) (Qo:Rw) (xs:Ry) (Ql:Int) (ws:Rv),vs=[.ref d,.ref r]/\aB K H d [.ref ga,.ref ha]/\H ga=some (.lst (Qw.map V.int))/\H ha=some (.lst xs)/\au K H (Qo.map nums) xs/\aB K H r [.int Ql,.ref wa]/\ao K H wa (ws.map V.int)/\Qw.length=9/\(∀ l∈Qo,l.length=9)/\Qo.length<=100/\ws.length<=1000/\CB Ql/\(∀ w∈ws,CB w)/\
 ∀ H',ae H H'->Q (.bl (lB Qw Qo Ql ws)) H'
theorem GP (ws:Rv):(ws.map λw=>decide (w<0)).any id=!ws.all λw=>decide (0<=w):=by induction ws with
 |nil=>rfl|cons w ws ih=>
  rw[bX,Ph,ih,O_,Bool.not_and];congr 1;by_cases h:w<0
  ·rw[id,Og h,Oq (by omega)];rfl
  ·rw[id,Oq h,Og (by omega)];rfl
theorem GG:(RB (8:Int).toNat [V.int 0]).flatten=(RB 8 (0:Int)).map V.int:=rfl
include B Z Q5 in
theorem Jd (F:aN K "shows" "shows" wA f fd)(m:mg "shows"=some (.ref f)):Fn P w K mg b8 "shows" ["duty","row"] 2 (DA K):=by
 refine bQ F gC m (λ_ _ _ _ H vs Q E hr h=>?_) (ln:=by intro vs H Q E h;(rcases h with⟨_,rfl,_⟩|⟨_,_,_,_,_,_,_,_,_,_,rfl,_⟩<;>rfl));rcases h with⟨d,rfl,q⟩|⟨d,r,ga,ha,wa,Qw,Qo,xs,Ql,ws,rfl,hd,hga,hha,hx,hrr,hwa,l9,h9,hl,hlw,cw,cws,q⟩
 ·refine⟨_,(av (bb (jc lD (pv 1) gk) (aw (aF gZ)) bp)
   (av (js 2 gC.nd (jx K (pv 0) ah))
   (av (js 3 gC.nd (jx K (pv 0) ah))
   (av (js 4 gC.nd (jx K (pv 1) ah))
   (av (js 5 gC.nd (jx K (pv 1) ah))
   (av (bb (PW.pt (jF (jc ko (pv 4) ah) (jF (jc (iz K hr) (b9 (dw K) rfl B.len L2.boot_len (jn 5 ag)) (b9 (dw K) rfl B.len L2.boot_len (jn 3 ag))) (nW (gj (b9 (BB K rfl) rfl B.any L2.Dm (iH (jC (bB.f gC ["duty","row","goal","hypotheses","whole","weights","rest","weight"] [false,false,false,false,false,false,false,true]) (c_ K (pv 5)) (λn=>(jg 7 n)) (jv ko (pv 7) ah)) ag))))))) (aw (aF gZ)) bp)
   (av (js 6 gC.nd (jl Q5 hr (bw (jp K (bu (jn 2 ag)) (pv 3)) (bw (jp K (bu (jn 4 ag)) (jC (bB.f gC ["duty","row","goal","hypotheses","whole","weights","rest","weight"] [false,false,false,false,false,false,false,true]) (c_ K (pv 5)) (λn=>(jg 7 n)) (dG dL (pv 7)))) ag))))
   (aw (aF (dY (jv vi (jx K (pv 6) ah) (dG dL (pv 4))) (eR (jE K hr (i4 (eE K) (pv 6) (iW ah) iX) (aK h_ (bu (jk ag)) (dP rfl B.QN)))))))))))))),?_⟩
  ac_rfl;nomatch rfl;rw[tI];ac_rfl;exact q
 refine⟨_,(av (bb (jc lD (pv 1) gk) (aw (aF gZ)) bp)
   (av (js 2 gC.nd (jx K (pv 0) ah))
   (av (js 3 gC.nd (jx K (pv 0) ah))
   (av (js 4 gC.nd (jx K (pv 1) ah))
   (av (js 5 gC.nd (jx K (pv 1) ah))
   (av (bb (PW.pt (jF (jc ko (pv 4) ah) (jF (jc (iz K hr) (b9 (dw K) rfl B.len L2.boot_len (jn 5 ag)) (b9 (dw K) rfl B.len L2.boot_len (jn 3 ag))) (nW (gj (b9 (BB K rfl) rfl B.any L2.Dm (iH (jC (bB.f gC ["duty","row","goal","hypotheses","whole","weights","rest","weight"] [false,false,false,false,false,false,false,true]) (c_ K (pv 5)) (λn=>(jg 7 n)) (jv ko (pv 7) ah)) ag))))))) (aw (aF gZ)) bp)
   (av (js 6 gC.nd (jl Q5 hr (bw (jp K (bu (jn 2 ag)) (pv 3)) (bw (jp K (bu (jn 4 ag)) (jC (bB.f gC ["duty","row","goal","hypotheses","whole","weights","rest","weight"] [false,false,false,false,false,false,false,true]) (c_ K (pv 5)) (λn=>(jg 7 n)) (dG dL (pv 7)))) ag))))
   (aw (aF (dY (jv vi (jx K (pv 6) ah) (dG dL (pv 4))) (eR (jE K hr (i4 (eE K) (pv 6) (iW ah) iX) (aK h_ (bu (jk ag)) (dP rfl B.QN)))))))))))))),?_⟩
 have lx:=hx.length;rw[aT]at lx;ac_rfl;nomatch rfl;rw[vZ];ac_rfl;refine aP hd db ?_;ac_rfl;refine aP hd (v:=.ref ha) (bi (j:=1) rfl) ?_;ac_rfl;refine aP hrr db ?_;ac_rfl;refine aP hrr (v:=.ref wa) (bi (j:=1) rfl) ?_;ac_rfl;have no:fV Qo Ql ws=false->∀ H',ae H H'->Q (.bl false) H':=λe H' s=>by have:=q H' s;unfold lB at this;rwa [e,Pk]at this
 refine fZ (λe=>?_) (λe=>?_)
 ·ac_rfl;refine no ?_ _ (ae.refl _);unfold fV;rw[Oq (by have:=Ot e;omega)];rfl
 have w1:1<=Ql:=by have:=Ou e;omega
 ac_rfl;refine dF (.inl hwa) ?_;ac_rfl;refine dF (.inl (ao.of hha)) ?_;ac_rfl;refine fZ (λe=>?_) (λe=>?_)
 ·ac_rfl;refine no ?_ _ (ae.refl _);have e1:¬ ((((ws.map V.int).length:Nat):Int)=(xs.length:Int)):=by simpa using e
  unfold fV;rw[Oq (show ¬ (ws.length=Qo.length)by rw[aT]at e1;omega),Pk,Pl]
 have e1:(((ws.map V.int).length:Nat):Int)=(xs.length:Int):=by simpa using e
 have lw:ws.length=Qo.length:=by rw[aT]at e1;omega
 ac_rfl;nomatch wa,rfl,⟨_,hwa⟩;refine cG (dO hwa) ((ws.map λw=>decide (w<0)).map D.bl) (by simp) (br (by simp;omega)) (λj x d' H4 R hj hd' s4 hx' hR=>?_) (λv H4 s4 n4=>?_)
 ·rw[aM]at hx';obtain⟨w,hw,rfl⟩:=bV.mp hx';rw[aM,aM,hw]at hd';cases hd';ac_rfl;exact hR _ _ (ae.refl _) ak.bl
 obtain⟨ba,rfl,ba0,ba1⟩:=ak.bls n4;ac_rfl;refine rK (ao.of ba1) ?_;rw[GP];ac_rfl;refine fZ (λe=>?_) (λe=>?_)
 ·ac_rfl;refine no ?_ _ s4;unfold fV;rw[show(ws.all λw=>decide (0<=w))=false by simpa using e,Pl,Pl]
 have hrow:fV Qo Ql ws=true:=by unfold fV;rw[Og w1,Og lw,show(ws.all λw=>decide (0<=w))=true by simpa using e];rfl
 ac_rfl;refine⟨(by right),λp hp=>?_⟩;have s5:=s4.trans (ax hp (.lst [.ref ga]));ac_rfl;refine dW aq (s5 _ _ hha) (br (by simp;omega)) λp2 hp2=>?_;have s6:=s5.trans (ax hp2 (.lst ([.ref ga]++xs)));ac_rfl;refine⟨(by right),λp3 hp3=>?_⟩;have s7:=s6.trans (ax hp3 (.lst [.int Ql]));ac_rfl;nomatch wa,rfl,⟨_,s7.seq hwa⟩;refine cG (dO (s7.seq hwa)) ((cn ws).map D.int) (by simp[cn]) (br (by simp;omega)) (λj x d' H8 R hj hd' s8 hx' hR=>?_) (λv H8 s8 n8=>?_)
 ·rw[aM]at hx';obtain⟨w,hw,rfl⟩:=bV.mp hx';unfold cn at hd';rw[aM,aM,hw]at hd';cases hd';ac_rfl;exact hR _ _ (ae.refl _) ak.int
 obtain⟨na,rfl,na0,na1⟩:=ak.iif.mp n8;ac_rfl;refine dW (s8 _ _ aq) na1 (br (by simp[cn];omega)) λp4 hp4=>?_;have s9:=s8.trans (ax hp4 (.lst ([.int Ql]++(cn ws).map V.int)));have s09:=s7.trans s9;ac_rfl;have hL:al K (upd H8 p4 (.lst ([.int Ql]++(cn ws).map V.int))) (.lst ((Qw::Qo).map nums)) (.ref p2):=by unfold al;nomatch p2,[.ref ga]++xs,rfl,ao.of (s9 _ _ (ax hp3 _ _ _ aq));rw[bX];unfold au;exact⟨_,_,rfl,fO.mpr ⟨ga,rfl,ao.of (s09 _ _ hga)⟩,au.same s09 _ hx⟩
 refine⟨p2,p4,Qw::Qo,Ql::cn ws,rfl,hL,ao.of aq,by simp[cn];omega,by simp;omega,λl hl=>?_,λi l w e1 e2 n hn=>?_,λv Ha sa na=>?_⟩
 ·rcases Oe.mp hl with hl|hl
  ·subst hl;exact l9
  ·exact h9 l hl
 ·refine .inr ?_;cases i with
  |zero=>simp at e2;subst e2;unfold CB at cw;exact⟨by omega,by omega⟩|succ i=>
   have e2':(cn ws)[i]?=some w:=by simpa using e2
   unfold cn at e2';rw[aM]at e2';obtain⟨u,hu,rfl⟩:=bV.mp e2';have:=cws u (cq hu);unfold CB at this;exact⟨by omega,by omega⟩
 obtain⟨ra,rfl,ra0,ra1⟩:=ak.iif.mp na;have hr9:(kr Qw Qo Ql ws).length=9:=j5 λl hl=>by
  rcases Oe.mp hl with hl|hl
  ·subst hl;exact l9
  ·exact h9 l hl
 obtain⟨c,fs,ec⟩:∃ c fs,kr Qw Qo Ql ws=c::fs:=by cases e:kr Qw Qo Ql ws with
  |nil=>rw[e]at hr9;simp at hr9|cons c fs=>exact⟨c,fs,rfl⟩
 have ra2:Ha ra=some (.lst ((c::fs).map V.int)):=by rw[<-ec];exact ra1
 have sf:=s09.trans sa;have yes:∀ H',ae H H'->Q (.bl (decide (-Ql<c)&&decide (fs=RB 8 0))) H':=λH' s=>by have:=q H' s;unfold lB vz at this;rw[hrow,ec,OG]at this;exact this
 ac_rfl;refine bK (ao.of ra2) (v:=.int c) db ?_;ac_rfl;cases hb:decide (-Ql<c)with
 |false=>ac_rfl;have:=yes _ sf;rw[hb,Pk]at this;exact this|true=>ac_rfl;refine lq (ao.of ra2) λp5 hp5=>?_;rw[show bM ((c::fs).map V.int) (some 1) none=fs.map V.int from Dh (k:=1) (by simp)];ac_rfl;refine⟨(by right),λp6 hp6=>?_⟩;ac_rfl;refine .inr ⟨p6,8,[.int 0],rfl,rfl,aq,by decide,by decide,by decide,λp7 hp7=>?_⟩;rw[GG];have t5:=ax hp5 (.lst (fs.map V.int));have t6:=ax hp6 (.lst [.int 0]);have t7:=ax hp7 (.lst ((RB 8 (0:Int)).map V.int));ac_rfl;refine vt (d:=nums fs) (e:=nums (RB 8 0)) (fO.mpr ⟨p5,rfl,ao.of (t7 _ _ (t6 _ _ aq))⟩) (fO.mpr ⟨p7,rfl,ao.of aq⟩) (OI (wV _) (by decide)) ?_;have:=yes _ (sf.trans (t5.trans (t6.trans t7)));rw[hb,OG]at this;unfold aO;rw[xB];exact this
def Fs (K:Fg):Sp:=λvs H Q _=>∃ n:Nat,vs=[.int n]/\n<=8/\∀ v H',ae H H'->ak H H' (.lst ((fJ n).map nums)) v->Q v H'
variable {n:Nat}
theorem Ct(h:n<=8):(fJ n).length<=256:=by rw[ER];exact OI (Nat.pow_le_pow_right (by decide) h) (by decide)
theorem Jc{r:Q2}(hp:H p=none)(hr:(upd H p (.lst [])) r=none):ak H (upd (upd H p (.lst [])) r (.lst [.ref p])) (.lst ((fJ 0).map nums)) (.ref r):=by
 have s1:=ax hp (.lst []);have s2:=ax hr (.lst [.ref p]);have pr:r≠p:=λz=>by rw[z,aq]at hr;cases hr
 refine ak.lst (fp:=[p]) ?_ (by simp) (λb hb=>?_) (s1.free hr) (by simpa using pr) aq
 ·show aj _ [nums []] [.ref p] [p];exact aj.cany (f:=[p]) (fp:=[]) (ai.line (ns:=[]) (s2 _ _ aq)) aj.nil
 ·rw[bn.mp hb];exact hp
include B Z in
theorem NJ (F:aN K "noughts_and_ones" "noughts_and_ones" y3 f fd)(m:mg "noughts_and_ones"=some (.ref f)):Fn P w K mg b8 "noughts_and_ones" ["count"] 1 (Fs K):=by
 refine bQ F oJ m λ_ _ _ _ H vs Q E hr h=>?_;obtain⟨n,rfl,hn,q⟩:=h;refine⟨_,(av (js 1 oJ.nd (bu (dJ (bu ag) ag)))
   (av (gx RN rfl (hU rfl B.range (jn 0 ag)) (jg 2 oJ.nd) (aw (js 1 oJ.nd (jp K (jC (bB.f oJ ["count","found","bit","weights"] [false,false,false,true]) (c_ K (pv 1)) (λn=>(jg 3 n)) (jp K (pv 3) (bu (jk ag)))) (jC (bB.f oJ ["count","found","bit","weights"] [false,false,false,true]) (c_ K (pv 1)) (λn=>(jg 3 n)) (jp K (pv 3) (bu (jk ag))))))))
   (aw (aF (pv 1))))),?_⟩
 ac_rfl;refine⟨(by right),λp1 hp1=>?_⟩;ac_rfl;refine⟨(by right),λp2 hp2=>?_⟩;have n0:=Jc hp1 hp2;have s0:=(ax hp1 (.lst [])).trans (ax hp2 (.lst [.ref p1]));ac_rfl;refine hJ (by omega) (by omega) ?_;refine pJ (λi σ H2=>∃ x fa,i<=n/\σ=[some (.int n),some (.ref fa),x]/\ae H H2/\ak H H2 (.lst ((fJ i).map nums)) (.ref fa))
  ⟨none,p2,O2 _,rfl,s0,n0⟩ ?_ ?_
 ·rintro i σ H2 hi ⟨x,fa,him,rfl,s2,n2⟩;have hi':i<n:=by have:i<((n:Int)).toNat:=hi;omega
  have lr:=Ct (n:=i) (by omega);obtain⟨_,ef,fa0,lsf⟩:=n2.ls;cases ef;obtain⟨vs,hvs,lvs⟩:=lsf.len;ac_rfl;nomatch fa,rfl,⟨_,ao.of hvs⟩;refine cG (dO (ao.of hvs)) (((fJ i).map λr=>r++[0]).map nums) (by simp[lvs]) (br (by omega)) (λj x' d H4 R hj hd s4 hx' hR=>?_) (λv H3 s3 n3=>?_)
  ·obtain⟨wa,r,rfl,hr',hwa⟩:=lsf.item hvs hx';rw[aM,aM,hr']at hd;cases hd;have lr2:=(oB _ _ (cq hr')).1;ac_rfl;refine⟨(by right),λp hp=>?_⟩;have t1:=ax hp (.lst [.int 0]);ac_rfl;refine dW (t1 _ _ (s4 _ _ hwa)) aq (br (by simp;omega)) λp' hp'=>?_;exact hR _ _ (t1.trans (ax hp' _)) (ak.iif.mpr ⟨p',rfl,t1.free hp',by rw[aq,OF];rfl⟩)
  ac_rfl;nomatch fa,rfl,⟨_,ao.of (s3 _ _ hvs)⟩;refine cG (dO (ao.of (s3 _ _ hvs))) (((fJ i).map λr=>r++[1]).map nums) (by simp[lvs]) (br (by omega)) (λj x' d H4 R hj hd s4 hx' hR=>?_) (λv' H4 s4 n4=>?_)
  ·obtain⟨wa,r,rfl,hr',hwa⟩:=lsf.item hvs hx';rw[aM,aM,hr']at hd;cases hd;have lr2:=(oB _ _ (cq hr')).1;ac_rfl;refine⟨(by right),λp hp=>?_⟩;have t1:=ax hp (.lst [.int 1]);ac_rfl;refine dW (t1 _ _ (s4 _ _ (s3 _ _ hwa))) aq (br (by simp;omega)) λp' hp'=>?_;exact hR _ _ (t1.trans (ax hp' _)) (ak.iif.mpr ⟨p',rfl,t1.free hp',by rw[aq,OF];rfl⟩)
  obtain⟨a1,vs1,f1,rfl,z1,y1,r1,_⟩:=ak.lso n3;obtain⟨a2,vs2,f2,rfl,z2,y2,r2,_⟩:=ak.lso n4;have l1:=r1.length;have l2:=r2.length;simp only[aT]at l1 l2;ac_rfl;refine dW (s4 _ _ y1) y2 (br (by omega)) λp hp=>?_;ac_rfl;nomatch _,p,by omega,rfl,(s2.trans (s3.trans s4)).trans (ax hp _);have:=ak.cat (n3.back s2) (s2.trans s3) s4 n4 (s4 _ _ y1) y2 hp;rw[<-OF]at this;exact this
 ·rintro σ H2 ⟨x,fa,him,rfl,s2,n2⟩;ac_rfl;exact q _ _ s2 n2
inductive AQ (K:Fg)(vs:Ry)(H:Hp)(Q:VK)(E:XK):Prop|mk (d ga ha:Q2) (Qw:Rv) (Qo:Rw) (xs:Ry):vs=[.ref d]->aB K H d [.ref ga,.ref ha]->H ga=some (.lst (Qw.map V.int))->H ha=some (.lst xs)->au K H (Qo.map nums) xs->Qw.length=9->(∀ l∈Qo,l.length=9)->Qo.length<=8->(∀ v H',ae H H'->ak H H' (gL (gm Qw Qo)) v->Q v H')->AQ K vs H Q E
theorem GO{r:Rv}(h:r∈fJ n):∀ w∈r,CB w:=λw hw=>by have:=(oB _ _ h).2 w hw;unfold CB;rcases this with z|z<;>exact⟨by omega,by omega⟩
include B Z in
theorem Jm (Q3f:Fn P w K mg b8 "noughts_and_ones" ["count"] 1 (Fs K))(G_shows:Fn P w K mg b8 "shows" ["duty","row"] 2 (DA K))(F:aN K "sought" "sought" w_ f fd)(m:mg "sought"=some (.ref f)):Fn P w K mg b8 "sought" ["duty"] 3 (AQ K):=by
 refine bQ F tY m λ_ _ _ _ H vs Q E hr h=>?_;obtain⟨d,ga,ha,Qw,Qo,xs,rfl,hd,hga,hha,hx,l9,h9,hl,q⟩:=h;obtain⟨gw,g_WHOLES,hT⟩:=B.Rl;have lx:=hx.length;rw[aT]at lx;refine⟨_,(av (js 1 tY.nd (jl Q3f hr (bv (b9 (dw K) rfl B.len L2.boot_len (bc (jx K (pv 0) ah) ag)) ag)))
   (av (gx RN rfl (pd K (jT rfl g_WHOLES)) (jg 2 tY.nd) (aw (gx RN rfl (c_ K (pv 1)) (jg 3 tY.nd) (aw (bb (gj (jl G_shows hr (jn 0 (iU (b_ (jn 2 (jn 3 ag))) ag)))) (aw (aF (b_ (jn 2 (jn 3 ag))))) bp)))))
   (aw (aF gk)))),?_⟩
 ac_rfl;refine aP hd (v:=.ref ha) (bi (j:=1) rfl) ?_;ac_rfl;refine dF (.inl (ao.of hha)) ?_;ac_rfl;refine⟨xs.length,rfl,by omega,λv H1 s1 n1=>?_⟩;rw[<-lx]at n1;obtain⟨ra,rfl,ra0,lsr⟩:=n1.ls;obtain⟨vs,hvs,lvs⟩:=lsr.len;have lr:=Ct (n:=Qo.length) hl;ac_rfl;nomatch gw,rfl,⟨_,hT _⟩;refine oh (n:=4) (pN (xs:=([1,2,3,4]:Rv).map V.int) (hT H1)) (λi σ H2=>∃ x y,A3 (σ=[some (.ref d),some (.ref ra),x,y]) (ae H1 H2) ((([1,2,3,4]:Rv).take i).findSome? (tQ Qw Qo)=none))
  ⟨none,none,rfl,ae.refl _,rfl⟩ (λi σ H2 ⟨_,_,_,e,_⟩=>e) ?_ ?_
 ·rintro i v σ H2 H3 hi ⟨x,y,rfl,s2,f2⟩ s3 hv;rw[aM]at hv;obtain⟨w,hw,rfl⟩:=bV.mp hv;have w4:1<=w/\w<=4:=by have:=cq hw;simp at this;omega
  have s13:=s2.trans s3;ac_rfl;nomatch ra,rfl,⟨_,ao.of (s13 _ _ hvs)⟩;refine oh (dO (ao.of (s13 _ _ hvs))) (λj σ H4=>∃ y,A3 (σ=[some (.ref d),some (.ref ra),some (.int w),y]) (ae H3 H4) (((fJ Qo.length).take j).findSome? (nM Qw Qo w)=none))
   ⟨y,rfl,ae.refl _,rfl⟩ (λi σ H2 ⟨_,_,e,_⟩=>e) ?_ ?_
  ·rintro j v σ H4 H5 hj ⟨y',rfl,s4,f4⟩ s5 hv;obtain⟨wa,r,rfl,hr',hwa⟩:=lsr.item hvs hv;have hm:=cq hr';have lr2:=(oB _ _ hm).1;have s15:=s13.trans (s4.trans s5);have s05:=s1.trans s15;ac_rfl;refine⟨(by right),λT hTT=>?_⟩;have t1:=ax hTT (.tup [.int w,.ref wa]);have s06:=s05.trans t1;ac_rfl;refine .inr ⟨d,T,ga,ha,wa,Qw,Qo,xs,w,r,rfl,s06.tup hd,s06 _ _ hga,s06 _ _ hha,au.same s06 _ hx,aB.of aq,ao.of (t1 _ _ (s15 _ _ hwa)),l9,h9,by omega,by omega,by unfold CB;exact⟨by omega,by omega⟩,GO hm,λH7 s7=>?_⟩;have s17:=s15.trans (t1.trans s7);cases hb:lB Qw Qo w r with
   |true=>
    ac_rfl;refine⟨(by right),λT2 hT2=>?_⟩;have e1:nM Qw Qo w r=some (w,r):=by unfold nM;rw[Ol hb]
    have e2:tQ Qw Qo w=some (w,r):=xh f4 hr' e1;have e3:gm Qw Qo=some (w,r):=xh f2 hw e2;have n7:ak H H7 (nums r) (.ref wa):=(ak.item (d:=nums r) n1 hvs (by rw[aM,hr'];rfl) hv).same s17;refine q _ _ ((s1.trans s17).trans (ax hT2 _)) ?_;rw[e3];exact n7.pairT hT2|false=>ac_rfl;refine⟨_,rfl,s4.trans (s5.trans (t1.trans s7)),xm f4 hr' ?_⟩;unfold nM;rw[Oh (by rw[hb];decide)]
  ·rintro σ H4 ⟨y',rfl,s4,f4⟩;refine⟨_,_,rfl,s13.trans s4,xm f2 hw ?_⟩;exact DN f4 (by omega)
 ·rintro σ H2 ⟨x,y,rfl,s2,f2⟩;ac_rfl;refine q _ _ (s1.trans s2) ?_;have e3:gm Qw Qo=none:=DN f2 (by decide);rw[e3];exact ak.non
inductive AO (K:Fg)(C:Nat->Q2)(vs:Ry)(H:Hp)(Q:VK)(E:XK):Prop|mk (ha dx:Q2):vs=[.ref ha]->H ha=some (.ins (C 6) dx [])->(∀ la va H',H la=none->H va=none->la≠va->aX [ha] H H'->H' ha=some (.ins (C 6) dx (j8 la va))->H' la=some (.dK [])->H' va=some (.dK [])->Q .non H')->AO K C vs H Q E
include B Z in
theorem GN (F:aN K "__init__" "Hall.__init__" zi f fd)(M:Mk K (C 6) f):kZ P w K mg b8 "Hall" (C 6) ["self"] 1 (AO K C):=by
 refine zM F M Nr Z.Rr λ_ _ _ _ H vs Q E hr h=>?_;obtain⟨ha,dx,rfl,hh,q⟩:=h;refine⟨_,(av (d0 (pv 0) pT rfl)
   (aw (d0 (pv 0) pT rfl))),?_⟩
 left;nofun;intro la la0;have e1:(upd H la (.dK [])) ha=some (.ins (C 6) dx []):=by rw[aC (cj hh la0)];exact hh
 nofun;refine⟨ha,(C 6),dx,[],rfl,e1,Z.Qx,Z.QB,by show 0<1000;decide,?_⟩;nofun;intro va va0;have nha:va≠ha:=λz=>by rw[z,aq]at va0;cases va0
 have nla:va≠la:=λz=>by rw[z,aC (cj hh la0).symm,aq]at va0;cases va0
 have v0:H va=none:=by rw[aC nha,aC nla]at va0;exact va0
 nofun;nomatch ha,(C 6),dx,_,rfl,by rw[aC nha.symm,aq],Z.Qx,Z.QG,Ov (ej (n:=1) (by decide)) (by decide);have nl:la≠ha:=(cj hh la0).symm;refine q la va _ la0 v0 nla.symm (λb o n e=>?_) aq ?_ ?_
 ·have n1:b≠ha:=λz=>n (by simp[z]);rw[aC n1,aC (cj e v0),aC n1,aC (cj e la0)];exact e
 ·rw[aC nl,aC nla.symm,aC nl,aq]
 ·rw[aC nha,aq]
inductive AD (K:Fg)(C:Nat->Q2)(vs:Ry)(H:Hp)(Q:VK)(E:XK):Prop|mk (ha la va:Q2) (n:Int) (ks:Rv) (cr:Int->Cr) (ws:Rv) (fp:Rz):vs=[.ref ha,.int n]->cc (C 6) (C 0) H ha la va ks cr ws fp->(∀ H' ws',aX [va] H H'->cc (C 6) (C 0) H' ha la va ks cr ws' fp->(∀ m,m∈ws'↔m∈ws/\m≠n)->Q .non H')->AD K C vs H Q E
include B Z in
theorem M4 (F:aN K "release" "Hall.release" yQ f fd)(M:bq K (C 6) "release" f):bF bH P w K mg b8 (C 6) "release" ["self","number"] 1 (AD K C):=by
 refine d5 F M MQ λ_ _ _ _ H vs Q E hr h=>?_;obtain⟨ha,la,va,n,ks,cr,ws,fp,rfl,hA,q⟩:=h;nomatch _,(aw (dA (JD (jf K 0) (pv 1) gk ⟨rfl,rfl,rfl,rfl⟩)));obtain⟨dx,hh⟩:=hA.ins;obtain⟨kvs,hva,hk⟩:=hA.vou;nofun;nomatch ha,(C 6),dx,_,_,rfl,hh,Z.Qx,Z.QG,ug _ _;exists va,rfl,.inl ⟨_,.inl hva⟩;refine⟨kvs,.inl n,hva,rfl,λv hv=>?_,λhv=>?_⟩
 ·nofun;refine q _ _ (hX (by simp)) (hA.putV hk.drop λm hm=>hA.sub m (Pn.mp hm).1) λm=>?_;rw[Pn,Oj]
 ·nofun;refine q _ ws (ae.refl _).offA hA λm=>⟨λhm=>⟨hm,λz=>?_⟩,λhm=>hm.1⟩;subst z;obtain⟨v,e,_⟩:=hk.2.2 m hm;rw[e]at hv;cases hv
inductive AE (K:Fg)(C:Nat->Q2)(vs:Ry)(H:Hp)(Q:VK)(E:XK):Prop|mk (ha la va:Q2) (n:Int) (ks:Rv) (cr:Int->Cr) (ws:Rv) (fp:Rz):vs=[.ref ha,.int n]->cc (C 6) (C 0) H ha la va ks cr ws fp->(∀ v H',ae H H'->ak H H' (nums (fC ks cr n)) v->Q v H')->AE K C vs H Q E
include B Z Q10 in
theorem NE (F:aN K "called_at" "Hall.called_at" zb f fd)(M:bq K (C 6) "called_at" f):bF bH P w K mg b8 (C 6) "called_at" ["self","number"] 2 (AE K C):=by
 refine d5 F M NG λ_ _ _ _ H vs Q E hr h=>?_;obtain⟨ha,la,va,n,ks,cr,ws,fp,rfl,hA,q⟩:=h;refine⟨_,(av (bb (lF (vJ (bS hr) (pv 1) (jf K 0))) (aw (aF (jl Q10 hr (bc (jU (bS hr) (jf K 0) (pv 1) (λ_ _=>rfl)) ag)))) bp)
   (aw (aF (bu ag)))),?_⟩
 obtain⟨dx,hh⟩:=hA.ins;obtain⟨kvs,QF,hk⟩:=hA.laid;unfold fC at q;left;nofun;nomatch ha,(C 6),dx,_,_,rfl,hh,Z.Qx,Z.QB,jP _ _;nomatch la,_,rfl,bh.k (k:=.inl n) QF;by_cases hm:n∈ks
 ·obtain⟨v,hv,p,f,rfl,hC,hf⟩:=hk.2.2 n hm;rw[Ol hm]at q;have rt:=hA.rt n hm;obtain⟨_,dx',w1,w2,b3,w4,Qy,hp,hb3,hD⟩:=hC.t (K:=K) rt.nine.d9;rw[hv];nofun;refine fZ (λ_=>?_) (λz=>by cases z);nofun;exists ha,(C 6),dx,_,_,rfl,hh,Z.Qx,Z.QB,jP _ _;refine⟨la,.ref p,rfl,by rw[<-hv];exact bh.k (k:=.inl n) QF,?_⟩;nofun;exact⟨p,dx',b3,w1,w2,w4,Qy,(cr n).P9,rfl,hp,hb3,hD,by have:=rt.nine.d;omega,q⟩
 ·rw[Oh hm]at q;rw[hk.no hm];nofun;refine fZ (λz=>by cases z) (λ_=>?_);nofun;refine⟨(by right),λp hp=>?_⟩;exact q _ _ (ax hp _) (ak.iif.mpr ⟨p,rfl,hp,aq⟩)
inductive AC (K:Fg)(C:Nat->Q2)(vs:Ry)(H:Hp)(Q:VK)(E:XK):Prop|mk (ha la va:Q2) (n:Int) (ks:Rv) (cr:Int->Cr) (ws:Rv) (fp:Rz):vs=[.ref ha,.int n]->cc (C 6) (C 0) H ha la va ks cr ws fp->(∀ H' ws',aX [va] H H'->cc (C 6) (C 0) H' ha la va ks cr ws' fp->(∀ m,m∈ws'↔m∈ws/\n∉fC ks cr m)->Q .non H')->AC K C vs H Q E
variable (Q53:bF bH P w K mg b8 (C 6) "called_at" ["self","number"] 2 (AE K C))(Q55:bF bH P w K mg b8 (C 6) "release" ["self","number"] 1 (AD K C))
include B Z Q53 Q55 in
theorem NK (F:aN K "release_callers" "Hall.release_callers" zm f fd)(M:bq K (C 6) "release_callers" f):bF bH P w K mg b8 (C 6) "release_callers" ["self","number"] 3 (AC K C):=by
 refine d5 F M Ft λ_ _ _ _ H vs Q E hr h=>?_;obtain⟨ha,la,va,n,ks,cr,ws,fp,rfl,hA,q⟩:=h;nomatch _,(aw (gx RN rfl (c_ K (mI (KS rfl) rfl B.list L2.oE (dD (jf K 0) ag))) (jg 2 Ft.nd) (aw (bb (jc (mS K) (pv 1) (cN Q53 Z.Qx hr bZ (pv 0) (jn 2 ag))) (aw (dA (cN Q55 Z.Qx hr bZ (pv 0) (jn 2 ag)))) bp))));obtain⟨dx,hh⟩:=hA.ins;obtain⟨kvs,hva,hk⟩:=hA.vou;have nd:=hk.2.1;nofun;exists ha,(C 6),dx,_,_,rfl,hh,Z.Qx,Z.QG,ug _ _;refine Iz hva hk.1 λl hl=>?_;have s0:=ax hl (.lst (ws.map V.int));have nlv:l≠va:=(cj hva hl).symm;nomatch l,rfl,⟨_,ao.of aq⟩;refine CI (xs:=ws.map V.int) (λi σ H'=>∃ x ws',A4 (σ=[some (.ref ha),some (.int n),x]) (aX [va] (upd H l (.lst (ws.map V.int))) H') (cc (C 6) (C 0) H' ha la va ks cr ws' fp) (∀ m,m∈ws'↔m∈ws/\(m∈ws.take i->n∉fC ks cr m)))
  ⟨none,ws,rfl,(ae.refl _).offA,hA.same s0,λm=>by simp⟩ (λi σ H' _ ⟨_,_,_,e,_,_⟩=>ao.of (e _ _ (by simp[nlv]) aq)) ?_ ?_
 ·rintro i v σ H2 hv ⟨x,ws',rfl,o2,hA2,hm2⟩;rw[aM]at hv;obtain⟨m0,hm0,rfl⟩:=bV.mp hv;obtain⟨dx2,hh2⟩:=hA2.ins;nofun;exists ha,dx2,_,rfl,hh2,gX;refine⟨ha,la,va,m0,ks,cr,ws',fp,rfl,hA2,λv H3 s3 n3=>?_⟩;obtain⟨ca,rfl,ca0,ca1⟩:=ak.iif.mp n3;refine Bv (ao.of ca1) ?_;have tk:∀ m,m∈ws.take (i+1)↔m∈ws.take i\/m=m0:=λm=>by rw[O5,hm0];simp
  by_cases hc:n∈fC ks cr m0
  ·rw[Og hc];nofun;exists ha,dx2,_,rfl,s3 _ _ hh2,gX;refine⟨ha,la,va,m0,ks,cr,ws',fp,rfl,hA2.same s3,λH4 ws4 o4 hA4 hm4=>?_⟩;nofun;refine⟨_,ws4,rfl,o2.trans (s3.offA.trans o4),hA4,λm=>?_⟩;rw[hm4,hm2,tk];constructor
   ·rintro⟨⟨h1,h2⟩,h3⟩;exact⟨h1,λz=>by rcases z with z|z;exact h2 z;exact OE z h3⟩
   ·rintro⟨h1,h2⟩;exact⟨⟨h1,λz=>h2 (.inl z)⟩,λz=>h2 (.inr z) (by rw[z];exact hc)⟩
  ·rw[Oq hc];nofun;refine⟨_,ws',rfl,o2.trans s3.offA,hA2.same s3,λm=>?_⟩;rw[hm2,tk];constructor
   ·rintro⟨h1,h2⟩;exact⟨h1,λz=>by rcases z with z|z;exact h2 z;rw[z];exact hc⟩
   ·rintro⟨h1,h2⟩;exact⟨h1,λz=>h2 (.inl z)⟩
 ·rintro σ H2 ⟨x,ws',rfl,o2,hA2,hm2⟩;nofun;refine q _ ws' (s0.offA.trans o2) hA2 λm=>?_;rw[hm2,aT,Oy (On _)];exact⟨λh=>⟨h.1,h.2 h.1⟩,λh=>⟨h.1,λ_=>h.2⟩⟩
inductive AB (K:Fg)(C:Nat->Q2)(vs:Ry)(H:Hp)(Q:VK)(E:XK):Prop|mk (p q:Q2) (n1 l1 n2 l2:Rw) (d1 d2:List D) (o1 o2:Rx):vs=[.ref p,.ref q]->eZ K (C 0) H p n1 l1 d1 o1->eZ K (C 0) H q n2 l2 d2 o2->Q (.bl (decide (n1=n2)&&decide (l1=l2))) H->AB K C vs H Q E
include B Z in
theorem Mh (F:aN K "same_oath" "same_oath" yb f fd)(m:mg "same_oath"=some (.ref f)):Fn P w K mg b8 "same_oath" ["craft","other"] 1 (AB K C):=by
 refine bQ F L3 m λ_ _ _ _ H vs Q E hr h=>?_;obtain⟨p,q,n1,l1,n2,l2,d1,d2,o1,o2,rfl,hP,hQ,k⟩:=h;nomatch _,(aw (aF (dY (jE K hr (jf K 0) (jf K 1)) (eR (jE K hr (jf K 0) (jf K 1))))));obtain⟨dx,w1,w2,w3,w4,hp,r1,r2,_,_⟩:=hP;obtain⟨dy,u1,u2,u3,u4,hq,t1,t2,_,_⟩:=hQ;obtain⟨a1,rfl⟩:∃ b,w1=.ref b:=by unfold bo al at r1;obtain⟨a,_,e,_⟩:=r1;exact⟨a,e⟩
 obtain⟨a2,rfl⟩:∃ b,w2=.ref b:=by unfold bo al at r2;obtain⟨a,_,e,_⟩:=r2;exact⟨a,e⟩
 obtain⟨b1,rfl⟩:∃ b,u1=.ref b:=by unfold bo al at t1;obtain⟨a,_,e,_⟩:=t1;exact⟨a,e⟩
 obtain⟨b2,rfl⟩:∃ b,u2=.ref b:=by unfold bo al at t2;obtain⟨a,_,e,_⟩:=t2;exact⟨a,e⟩
 nofun;exists p,(C 0),dx,_,_,rfl,hp,Z.Qn,Z.Qz,jY _ _ _ _;nomatch q,(C 0),dy,_,_,rfl,hq,Z.Qn,Z.Qz,jY _ _ _ _;refine vt r1 t1 (OI (D9 _) (by decide)) ?_;rw[Ep];refine ik (λe=>?_) (λe=>by rw[e,Pk]at k;exact k);rw[e,OG]at k;nofun;exists p,(C 0),dx,_,_,rfl,hp,Z.Qn,Z.QC,kI _ _ _ _;nomatch q,(C 0),dy,_,_,rfl,hq,Z.Qn,Z.QC,kI _ _ _ _;refine vt r2 t2 (OI (D9 _) (by decide)) ?_;rw[Ep];exact k
inductive AN (K:Fg)(C:Nat->Q2)(vs:Ry)(H:Hp)(Q:VK)(E:XK):Prop|mk (ha la va p:Q2) (n:Int) (ks:Rv) (cr:Int->Cr) (ws:Rv) (fp:Rz) (c:Cr):vs=[.ref ha,.int n,.ref p]->cc (C 6) (C 0) H ha la va ks cr ws fp->iR K (C 0) H p c.Qg c.P7 c.P9 c.P_->c.Nine->n.natAbs<fE->(n∈ks\/ks.length<60)->(c.right=false->∀ H',ae H H'->E (.ref (C 2)) none H')->(c.right=true->∀ H' ks' ws' fp',aX [la,va] H H'->cc (C 6) (C 0) H' ha la va ks' (eM cr n c) ws' fp'->(∀ m,m∈ks'↔m∈ks\/m=n)->(n∈ks->ks'=ks)->(n∉ks->ks'=ks++[n])->
  (∀ m,m∈ws'↔m∈ws/\m≠n/\(n∈ks->¬ ((cr n).Qg=c.Qg/\(cr n).P7=c.P7)->n∉fC ks cr m))->(∀ b∈fp',b∈fp\/H b=none)->Q .non H')->AN K C vs H Q E
variable (Qe:Fn P w K mg b8 "copied_craft" ["craft"] 4 (Qd K C))
include B Z Q55 Qe in
theorem LH (G_right:Fn P w K mg b8 "right" ["craft"] 7 (Bj K C))(Q57:bF bH P w K mg b8 (C 6) "release_callers" ["self","number"] 3 (AC K C))(Q59:Fn P w K mg b8 "same_oath" ["craft","other"] 1 (AB K C))(F:aN K "lay" "Hall.lay" xL f fd)(M:bq K (C 6) "lay" f):bF (cI P w) P w K mg b8 (C 6) "lay" ["self","number","craft"] 8 (AN K C):=by
 refine uK F M LN λ_ _ _ _ H vs Q E hr h=>?_;obtain⟨ha,la,va,p,n,ks,cr,ws,fp,c,rfl,hA,hT,nine,hn,hfew,qE,qQ⟩:=h;refine⟨_,(av (bb (lE (gj (jl G_right hr (jn 2 ag)))) (aw (pM Z.Rg rfl Z.Rf rfl pI (dE (By (pv 1) (by decide+kernel) (by decide+kernel)) ag))) bp)
   (av (bb (PW.pt (vT (lF (vJ (bS hr) (pv 1) (jf K 0))) (wI (lE (gj (jl Q59 hr (bc (jU (bS hr) (jf K 0) (pv 1) (λ_ _=>rfl)) (jn 2 ag)))))))) (aw (dA (cN Q57 Z.Qx hr bZ (pv 0) (jn 1 ag)))) bp)
   (av (dA (cN Q55 Z.Qx hr bZ (pv 0) (jn 1 ag)))
   (aw (pG (bS hr) (jf K 0) (pv 1) (jl Qe hr (jn 2 ag)) rfl))))),?_⟩
 have g1:=nine.n;have g2:=nine.l;have g3:=nine.d;have g4:=nine.o;left;nofun;refine⟨p,c.Qg,c.P7,c.P9,c.P_,rfl,hT.1,by omega,by omega,by omega,by omega,nine.n9,nine.l9,nine.d9,λls hl=>⟨by have:=(nine.o9 ls hl).1;omega,(nine.o9 ls hl).2⟩,λH1 s1=>?_⟩;cases hr':dI c.Qg c.P7 c.P9 c.P_ with
 |false=>nofun;refine⟨hn,λz=>?_⟩;nofun;exact⟨(by right),qE hr' _ s1⟩|true=>
 have qQ:=qQ hr';clear qE;have rtc:c.Rt:=⟨nine,hr'⟩;nofun;have hA1:=hA.same s1;have hT1:=iR.same s1 hT;have oA:∀{Hx:Hp},aX [va] H1 Hx->iR K (C 0) Hx p c.Qg c.P7 c.P9 c.P_:=λ{Hx} o=>by
  obtain⟨kv,hv,_⟩:=hA1.vou;have nd:=o.nod λa ha=>by rw[bn.mp ha];exact⟨_,hv⟩
  obtain⟨k0,dx,w1,w2,b3,w4,Qy,k1,k2,k3⟩:=hT1;exact⟨k0.nod nd,dx,w1,w2,b3,w4,Qy,nd _ _ k1 (λ_ z=>by cases z),nd _ _ k2 (λ_ z=>by cases z),R2.mono k3 λ_ _ z=>z.sq nd.sq⟩
 with_reducible refine jH (λσ H'=>σ=[some (.ref ha),some (.int n),some (.ref p)]/\∃ ws',aX [va] H1 H'/\cc (C 6) (C 0) H' ha la va ks cr ws' fp/\∀ m,m∈ws'↔m∈ws/\(n∈ks->¬ ((cr n).Qg=c.Qg/\(cr n).P7=c.P7)->n∉fC ks cr m)) (λNX tail=>?_) ?_
 ·obtain⟨dx,hh⟩:=hA1.ins;obtain⟨kvs,QF,hk⟩:=hA1.laid;nofun;nomatch ha,(C 6),dx,_,_,rfl,hh,Z.Qx,Z.QB,jP _ _;nomatch la,_,rfl,bh.k (k:=.inl n) QF;by_cases hm:n∈ks
  ·obtain⟨v,hv,q,f,rfl,hC,hf⟩:=hk.2.2 n hm;rw[hv];nofun;refine fZ (λ_=>?_) (λz=>by cases z);nofun;exists ha,(C 6),dx,_,_,rfl,hh,Z.Qx,Z.QB,jP _ _;refine⟨la,.ref q,rfl,by rw[<-hv];exact bh.k (k:=.inl n) QF,?_⟩;nofun;nomatch q,p,(cr n).Qg,(cr n).P7,c.Qg,c.P7,_,_,_,_,rfl,hC.at,hT1.1;cases hs:(decide ((cr n).Qg=c.Qg)&&decide ((cr n).P7=c.P7))with
   |true=>nofun;rw[Of,Oj,Oj]at hs;exact tail _ _ ⟨rfl,ws,(ae.refl _).offA,hA1,λm=>⟨λz=>⟨z,λ_ w=>OE hs w⟩,λz=>z.1⟩⟩|false=>
    have hs':¬ ((cr n).Qg=c.Qg/\(cr n).P7=c.P7):=λz=>by rw[Og z.1,Og z.2]at hs;cases hs
    nofun;exists ha,dx,_,rfl,hh,gX;refine⟨ha,la,va,n,ks,cr,ws,fp,rfl,hA1,λH2 ws2 o2 hA2 hm2=>?_⟩;nofun;refine tail _ _ ⟨rfl,ws2,o2,hA2,λm=>?_⟩;rw[hm2];exact⟨λz=>⟨z.1,λ_ _=>z.2⟩,λz=>⟨z.1,z.2 hm hs'⟩⟩
  ·rw[hk.no hm];nofun;refine fZ (λz=>by cases z) (λ_=>?_);nofun;exact tail _ _ ⟨rfl,ws,(ae.refl _).offA,hA1,λm=>⟨λz=>⟨z,λw=>OE w hm⟩,λz=>z.1⟩⟩
 rintro σ H2 ⟨rfl,ws2,o2,hA2,hm2⟩;obtain⟨dx2,hh2⟩:=hA2.ins;left;nofun;exists ha,dx2,_,rfl,hh2,gX;refine⟨ha,la,va,n,ks,cr,ws2,fp,rfl,hA2,λH3 ws3 o3 hA3 hm3=>?_⟩;have o13:=o2.trans o3;nofun;refine⟨p,c,rfl,oA o13,nine,λq f H4 s4 hC hf fn=>?_⟩;have hA4:=hA3.same s4;obtain⟨dx4,hh4⟩:=hA4.ins;obtain⟨kvs,QF,hk⟩:=hA4.laid;nofun;exists ha,(C 6),dx4,_,_,rfl,hh4,Z.Qx,Z.QB,jP _ _;have hkl:=hk.len;have h60:=hA.few;nomatch la,_,rfl,eN.k (k:=.inl n) QF (j4 (by omega));have nd5:fG H4 (upd H4 la (.dK (aZ kvs (.inl n) (.ref q)))):=og QF;obtain⟨kv,hva,hkv⟩:=hA4.vou;have put:=hk.put' (m:=n) (v:=.ref q) (P':=ng (C 0) (upd H4 la (.dK (aZ kvs (.inl n) (.ref q)))) (eM cr n c) (f++fp)) ⟨q,f,rfl,by unfold eM;rw[Ol rfl];exact hC.nod nd5,λb hb=>OK _ hb⟩ (λk v ne ⟨p',f',e1,e2,e3⟩=>⟨p',f',e1,by unfold eM;rw[Oh ne];exact e2.nod nd5,λb hb=>Oz _ (e3 b hb)⟩);have kss:∀ m,m∈(if n∈ks then ks else ks++[n])↔m∈ks\/m=n:=λm=>by
  by_cases z:n∈ks
  ·rw[Ol z];exact⟨.inl,λw=>by rcases w with w|w;exact w;rw[w];exact z⟩
  ·rw[Oh z];simp
 refine qQ _ (if n∈ks then ks else ks++[n]) ws3 (f++fp) ?_ ⟨?_,⟨_,aq,put⟩,⟨kv,by rw[aC hA4.ne.symm];exact hva,hkv⟩,hA4.ne,λm hm=>?_,?_,λm hm=>?_,λb hb=>?_⟩ kss (λz=>by rw[Ol z]) (λz=>by rw[Oh z]) (λm=>?_) (λb hb=>?_)
 ·refine aX.trans (s1.offA.trans ?_) (s4.offA.trans (hX (by simp)));exact aX.putDict o13 λb hb=>by rw[bn.mp hb];simp
 ·exact⟨dx4,nd5 _ _ hh4 (λ_ z=>by cases z)⟩
 ·unfold eM;by_cases z:m=n
  ·rw[Ol z];exact rtc
  ·rw[Oh z];exact hA.rt m (by rcases(kss m).mp hm with w|w;exact w;exact OE w z)
 ·by_cases z:n∈ks
  ·rw[Ol z];exact hA.few
  ·rw[Oh z,OA,List.length_singleton];rcases hfew with w|w
   ·exact OE w z
   ·omega
 ·exact(kss m).mpr (.inl (hA4.sub m hm))
 ·rcases bW.mp hb with z|z
  ·obtain⟨o,e,n⟩:=hC.hasN b z;exact⟨o,nd5 b o e n,n⟩
  ·obtain⟨o,e,n⟩:=hA4.has b z;exact⟨o,nd5 b o e n,n⟩
 ·rw[hm3,hm2];exact⟨λz=>⟨z.1.1,z.2,z.1.2⟩,λz=>⟨⟨z.1,z.2.2⟩,z.2.1⟩⟩
 ·rcases bW.mp hb with z|z
  ·refine .inr ?_;have e3:=hf b z;cases eb:H b with
   |none=>rfl|some o=>
    exfalso;by_cases nb:b=va
    ·obtain⟨kv3,hv3,_⟩:=hA3.vou;rw[nb,hv3]at e3;cases e3
    ·have:=o13 b o (by simp[nb]) (s1 _ _ eb);rw[this]at e3;cases e3
  ·exact .inl z
inductive AM (K:Fg)(C:Nat->Q2)(vs:Ry)(H:Hp)(Q:VK)(E:XK):Prop|mk (ha la va:Q2) (ks:Rv) (cr:Int->Cr) (ws:Rv) (fp:Rz):vs=[.ref ha]->cc (C 6) (C 0) H ha la va ks cr ws fp->(∀(l:Q2) (ns:Rv),H l=none->ns.Perm ks->ns.Pairwise (·<=·)->Q (.ref l) (upd H l (.lst (ns.map V.int))))->AM K C vs H Q E
include B Z in
theorem Nm (F:aN K "standing" "Hall.standing" zh f fd)(M:bq K (C 6) "standing" f):bF bH P w K mg b8 (C 6) "standing" ["self"] 1 (AM K C):=by refine d5 F M Nq λ_ _ _ _ H vs Q E hr h=>?_;obtain⟨ha,la,va,ks,cr,ws,fp,rfl,hA,q⟩:=h;nomatch _,(aw (aF (b9 (EU rfl) rfl B.sorted L2.EL (dD (jf K 0) ag))));obtain⟨dx,hh⟩:=hA.ins;obtain⟨kvs,QF,hk⟩:=hA.laid;have h60:=hA.few;nofun;exists ha,(C 6),dx,_,_,rfl,hh,Z.Qx,Z.QB,jP _ _;exact CS QF hk.1 (by omega) q
inductive AL (K:Fg)(C:Nat->Q2)(vs:Ry)(H:Hp)(Q:VK)(E:XK):Prop|mk (ha la va:Q2) (ks:Rv) (cr:Int->Cr) (ws:Rv) (fp:Rz):vs=[.ref ha]->cc (C 6) (C 0) H ha la va ks cr ws fp->(∀ ca H' kvs (ns:Rv) (F:Int->Rz),ae H H'->H ca=none->H' ca=some (.dK kvs)->ns.Perm ks->ns.Pairwise (·<=·)->cD (λm v=>∃ p,v=.ref p/\dH (C 0) H' p (cr m) (F m)) kvs ns->(∀ m∈ns,∀ b∈F m,H b=none)->(∀ m∈ns,(F m).Nodup)->(∀ m∈ns,∀ k∈ns,m≠k->∀ b∈F m,b∉F k)->Q (.ref ca) H')->AL K C vs H Q E
include B Z Qe in
theorem Na (Q43:bF bH P w K mg b8 (C 6) "standing" ["self"] 1 (AM K C))(F:aN K "crafts" "Hall.crafts" yi f fd)(M:bq K (C 6) "crafts" f):bF bH P w K mg b8 (C 6) "crafts" ["self"] 5 (AL K C):=by
 refine d5 F M yH λ_ _ _ _ H vs Q E hr h=>?_;obtain⟨ha,la,va,ks,cr,ws,fp,rfl,hA,q⟩:=h;refine⟨_,(av (js 1 yH.nd pT)
   (av (gx RN rfl (c_ K (io Q43 Z.Qx hr bZ (pv 0))) (jg 2 yH.nd) (aw (pG (bS hr) (pv 1) (pv 2) (jl Qe hr (bc (jU (bS hr) (jf K 0) (pv 2) (λ_ _=>rfl)) ag)) rfl)))
   (aw (aF (pv 1))))),?_⟩
 obtain⟨dx,hh⟩:=hA.ins;have h60:=hA.few;left;nofun;intro ca ca0;have s1:=ax ca0 (.dK []);nofun;left;nofun;exists ha,dx,_,rfl,s1 _ _ hh,gX;refine⟨ha,la,va,ks,cr,ws,fp,rfl,hA.same s1,λl ns l0 pm so=>?_⟩;have s2:=ax l0 (.lst (ns.map V.int));have s12:=s1.trans s2;have hca:=s2 _ _ (aq (H:=H) (a:=ca) (o:=.dK []));have nlc:l≠ca:=λz=>by rw[z,aq]at l0;cases l0
 have hl:(upd (upd H ca (.dK [])) l (.lst (ns.map V.int))) l=some (.lst (ns.map V.int)):=aq;generalize (upd (upd H ca (.dK [])) l (.lst (ns.map V.int)))=H2 at s2 s12 hca hl;have nnd:ns.Nodup:=pm.nodup_iff.mpr hA.nd;have nlen:=pm.length_eq;nomatch l,rfl,⟨_,ao.of hl⟩;refine CI (xs:=ns.map V.int) (λi σ H'=>E3 λx kvs F=>A8 (σ=[some (.ref ha),some (.ref ca),x]) (ae H H') (fG H2 H') (H' ca=some (.dK kvs)) (cD (λm v=>∃ p,v=.ref p/\dH (C 0) H' p (cr m) (F m)) kvs (ns.take i)) ((∀ m∈ns.take i,∀ b∈F m,H b=none)) ((∀ m∈ns.take i,(F m).Nodup)) ((∀ m∈ns.take i,∀ k∈ns.take i,m≠k->∀ b∈F m,b∉F k)))
  ⟨none,[],(λ_=>[]:Int->Rz),rfl,s12,(ae.refl _).nod,hca,by rw[List.take_zero];exact cD.nil,λm hm=>by simp at hm,λm hm=>by simp at hm,λm hm=>by simp at hm⟩ (λi σ H' _ ⟨_,_,_,_,_,nd,_,_,_,_,_⟩=>ao.of (nd _ _ hl (λ_ z=>by cases z))) ?_ ?_
 ·rintro i v σ H3 hv ⟨x,kvs,F,rfl,s3,nd3,hc3,hk3,f3,u3,d3⟩;rw[aM]at hv;obtain⟨m,hm,rfl⟩:=bV.mp hv;have hi:i<ns.length:=(d7.mp hm).1;have mk:m∈ks:=pm.mem_iff.mp (cq hm);have mt:m∉ns.take i:=EH nnd hm;have hA3:=hA.same s3;obtain⟨dx3,hh3⟩:=hA3.ins;obtain⟨kvl,QF,hkl⟩:=hA3.laid;obtain⟨v,hv,p,f,rfl,hC,hf⟩:=hkl.2.2 m mk;have rt:=hA.rt m mk;nofun;exists ha,(C 6),dx3,_,_,rfl,hh3,Z.Qx,Z.QB,jP _ _;refine⟨la,.ref p,rfl,by rw[<-hv];exact bh.k (k:=.inl m) QF,?_⟩;nofun;refine⟨p,cr m,rfl,hC.t rt.nine.d9,rt.nine,λq fq H4 s4 hq fq0 fqn=>?_⟩;have hc4:=s4 _ _ hc3;have kl:=hk3.len;rw[O0]at kl;nofun;nomatch ca,_,rfl,eN.k (k:=.inl m) hc4 (j4 (by omega));have nd5:fG H4 (upd H4 ca (.dK (aZ kvs (.inl m) (.ref q)))):=og hc4;have put:=hk3.put' (m:=m) (v:=.ref q) (P':=λk v=>∃ p,v=.ref p/\dH (C 0) (upd H4 ca (.dK (aZ kvs (.inl m) (.ref q)))) p (cr k) ((λj=>if j=m then fq else F j) k)) ⟨q,rfl,by simp only[Ol];exact hq.nod nd5⟩ (λk v ne ⟨p',e1,e2⟩=>⟨p',e1,by simp only[Oh ne];exact(e2.same s4).nod nd5⟩);rw[Oh mt]at put;have tk:ns.take (i+1)=ns.take i++[m]:=by rw[O5,hm];rfl
  have old:∀ k∈ns.take i,∀ b∈F k,∃ o,H3 b=some o:=λk hk b hb=>by obtain⟨v,_,p',_,e2⟩:=hk3.2.2 k hk;exact e2.has b hb
  refine⟨_,_,_,rfl,(s3.trans s4).put ca0,nd3.trans (s4.nod.trans nd5),aq,by rw[tk];exact put,λk hk b hb=>?_,λk hk=>?_,λk hk j hj ne b hb=>?_⟩
  ·rw[tk]at hk;by_cases z:k=m
   ·simp only[z,Ol]at hb;exact s3.fr b (fq0 b hb)
   ·simp only[Oh z]at hb;refine f3 k ?_ b hb;rcases bW.mp hk with w|w
    ·exact w
    ·exact OE (bn.mp w) z
  ·rw[tk]at hk;by_cases z:k=m
   ·simp only[z,Ol];exact fqn
   ·simp only[Oh z];refine u3 k ?_;rcases bW.mp hk with w|w
    ·exact w
    ·exact OE (bn.mp w) z
  ·rw[tk]at hk hj;have inT:∀{k},k∈ns.take i++[m]->¬ k=m->k∈ns.take i:=λ{k} hk z=>by
    rcases bW.mp hk with w|w
    ·exact w
    ·exact OE (bn.mp w) z
   by_cases z:k=m
   ·have zj:¬ j=m:=λw=>ne (z.trans w.symm);simp only[Ol z]at hb;simp only[Oh zj];intro w;obtain⟨o,ho⟩:=old j (inT hj zj) b w;rw[fq0 b hb]at ho;cases ho
   ·simp only[Oh z]at hb;by_cases zj:j=m
    ·simp only[Ol zj];intro w;obtain⟨o,ho⟩:=old k (inT hk z) b hb;rw[fq0 b w]at ho;cases ho
    ·simp only[Oh zj];exact d3 k (inT hk z) j (inT hj zj) ne b hb
 ·rintro σ H3 ⟨x,kvs,F,rfl,s3,nd3,hc3,hk3,f3,u3,d3⟩;rw[aT,Oy (On _)]at hk3 f3 u3 d3;nofun;exact q ca H3 kvs ns F s3 ca0 hc3 pm so hk3 f3 u3 d3
inductive AG (K:Fg)(C:Nat->Q2)(vs:Ry)(H:Hp)(Q:VK)(E:XK):Prop|mk (ha dx la va:Q2) (n:Int) (kvs:List (bj×V)):vs=[.ref ha,.int n]->H ha=some (.ins (C 6) dx (j8 la va))->H la=some (.dK kvs)->n.natAbs<fE->(aG kvs (.inl n)=none->E (.ref (C 3)) none H)->((aG kvs (.inl n)).isSome=true->Q .non H)->AG K C vs H Q E
include B Z in
theorem NA (F:aN K "must_stand" "Hall.must_stand" yX f fd)(M:bq K (C 6) "must_stand" f):bF (cI P w) P w K mg b8 (C 6) "must_stand" ["self","number"] 1 (AG K C):=by refine uK F M NC λ_ _ _ _ H vs Q E hr h=>?_;obtain⟨ha,dx,la,va,n,kvs,rfl,hh,QF,hn,qE,qQ⟩:=h;exists _,(aw (bb (lF (oG (bS hr) (pv 1) (jf K 0))) (aw (pM Z.QX rfl Z.QW rfl pI (dE (vM (pv 1) (by decide+kernel)) ag))) bp));nomatch ha,(C 6),dx,_,_,rfl,hh,Z.Qx,Z.QB,jP _ _;nomatch la,_,rfl,bh.k (k:=.inl n) QF;cases hv:aG kvs (.inl n)with
 |none=>nofun;refine fZ (λ_=>?_) (λz=>by cases z);nofun;refine⟨hn,λz=>?_⟩;nofun;exact⟨(by right),qE hv⟩|some y=>nofun;refine fZ (λz=>by cases z) (λ_=>?_);nofun;exact qQ (by rw[hv];rfl)
inductive AF (K:Fg)(C:Nat->Q2)(vs:Ry)(H:Hp)(Q:VK)(E:XK):Prop|mk (ha la va:Q2) (n:Int) (ks:Rv) (cr:Int->Cr) (ws:Rv) (fp:Rz):vs=[.ref ha,.int n]->cc (C 6) (C 0) H ha la va ks cr ws fp->n.natAbs<fE->(n∉ks->E (.ref (C 3)) none H)->(n∈ks->(∃ m∈cK (cr n).P9,m∉ks)->∀ H',ae H H'->E (.ref (C 4)) none H')->(n∈ks->(∀ m∈cK (cr n).P9,m∈ks)->∀ v H',ae H H'->ak H H' (.lst (((cr n).gs cr).map kc)) v->Q v H')->AF K C vs H Q E
include B Z in
theorem ND (Q4f:bF (cI P w) P w K mg b8 (C 6) "must_stand" ["self","number"] 1 (AG K C))(G_duties:uY P w K mg b8 "duties" ["craft","crafts"] 6 (A0 K C))(F:aN K "duties_at" "Hall.duties_at" zc f fd)(M:bq K (C 6) "duties_at" f):bF (cI P w) P w K mg b8 (C 6) "duties_at" ["self","number"] 7 (AF K C):=by
 refine uK F M NH λ_ _ _ _ H vs Q E hr h=>?_;obtain⟨ha,la,va,n,ks,cr,ws,fp,rfl,hA,hn,q1,q2,q3⟩:=h;refine⟨_,(av (dA (cN Q4f Z.Qx hr v5 (pv 0) (jn 1 ag)))
   (aw (aF (Gz G_duties hr rfl v5 (bc (jU (bS hr) (jf K 0) (pv 1) (λ_ _=>rfl)) (dD (jf K 0) ag)))))),?_⟩
 obtain⟨dx,hh⟩:=hA.ins;obtain⟨kvs,QF,hk⟩:=hA.laid;left;nofun;exists ha,dx,_,rfl,hh,gX;refine⟨ha,dx,la,va,n,kvs,rfl,hh,QF,hn,λhv=>?_,λhv=>?_⟩
 ·refine q1 λz=>?_;obtain⟨v,e,_⟩:=hk.2.2 n z;rw[hv]at e;cases e
 have hm:n∈ks:=by refine Pg λz=>?_;rw[hk.no z]at hv;cases hv
 obtain⟨v,hv,p,f,rfl,hC,hf⟩:=hk.2.2 n hm;have rt:=hA.rt n hm;nofun;exists ha,(C 6),dx,_,_,rfl,hh,Z.Qx,Z.QB,jP _ _;refine⟨la,.ref p,rfl,by rw[<-hv];exact bh.k (k:=.inl n) QF,?_⟩;nofun;exists ha,(C 6),dx,_,_,rfl,hh,Z.Qx,Z.QB,jP _ _;nomatch p,la,(cr n).Qg,(cr n).P7,(cr n).P9,(cr n).P_,kvs,tp cr,rfl,hC.t rt.nine.d9,rt.good,rt.dok,QF,rt.calledMost;by_cases hu:∃ m∈cK (cr n).P9,m∉ks
 ·obtain⟨m,mm,mk⟩:=hu;exact .inl ⟨⟨m,mm,hk.no mk⟩,q2 hm ⟨m,mm,mk⟩⟩
 ·have hall:∀ m∈cK (cr n).P9,m∈ks:=λm mm=>Pg λz=>hu ⟨m,mm,z⟩;refine .inr ⟨λm mm=>?_,λd hd=>?_,?_,λv H' s' n'=>q3 hm hall v H' s' ?_⟩
  ·obtain⟨v,e,_⟩:=hk.2.2 m (hall m mm);rw[e];rfl
  ·cases d with|call m g0 g1 t0 t1=>have mk:=hall m (IV hd);obtain⟨v,e,o,fo,rfl,hO,_⟩:=hk.2.2 m mk;have g:=(hA.rt m mk).good;exact⟨o,_,_,e,hO.at,by rw[aT];exact g⟩|_=>trivial
  ·rw[<-Es,aT];have:=(rt.gs (cr:=cr) λm mm=>hA.rt m (hall m mm)).1;unfold Cr.gs at this;omega
  ·unfold Cr.gs;rw[Es];exact n'
inductive AK (K:Fg)(C:Nat->Q2)(vs:Ry)(H:Hp)(Q:VK)(E:XK):Prop|mk (ha la va:Q2) (n:Int) (ks:Rv) (cr:Int->Cr) (ws:Rv) (fp:Rz):vs=[.ref ha,.int n]->cc (C 6) (C 0) H ha la va ks cr ws fp->n.natAbs<fE->(n∉ks->E (.ref (C 3)) none H)->(n∈ks->(∃ m∈cK (cr n).P9,m∉ks)->∀ H',ae H H'->E (.ref (C 4)) none H')->(n∈ks->(∀ m∈cK (cr n).P9,m∈ks)->∀ v H' ws',aX [va] H H'->cc (C 6) (C 0) H' ha la va ks cr ws' fp->(∀ m,m∈ws'↔m∈ws\/(m=n/\mE ((cr n).gs cr)))->ak H H' (.lst (((cr n).gs cr).map λg=>gL (gm g.1 g.2))) v->Q v H')->AK K C vs H Q E
include B Z in
theorem Mg (G_sought:Fn P w K mg b8 "sought" ["duty"] 3 (AQ K))(Q51:bF (cI P w) P w K mg b8 (C 6) "duties_at" ["self","number"] 7 (AF K C))(F:aN K "seek" "Hall.seek" yd f fd)(M:bq K (C 6) "seek" f):bF (cI P w) P w K mg b8 (C 6) "seek" ["self","number"] 8 (AK K C):=by
 refine uK F M uz λ_ _ _ _ H vs Q E hr h=>?_;obtain⟨ha,la,va,n,ks,cr,ws,fp,rfl,hA,hn,q1,q2,q3⟩:=h;refine⟨_,(av (jS 2 uz.nd (bB.f uz ["self","number","rows","duty"] [false,false,false,true]) (c_ K (cN Q51 Z.Qx hr v5 (pv 0) (jn 1 ag))) (λn=>(jg 3 n)) (jl G_sought hr (jn 3 ag)))
   (av (bb (gj (b9 (kj K rfl) rfl B.all L2.kK (iH (jC (bB.f uz ["self","number","rows","row"] [false,false,false,true]) (c_ K (pv 2)) (λn=>(jg 3 n)) (jv wH (pv 3) gk)) ag))) (aw (pG (bS hr) (jf K 0) (pv 1) gZ rfl)) bp)
   (aw (aF (pv 2))))),?_⟩
 obtain⟨dx,hh⟩:=hA.ins;left;nofun;exists ha,dx,_,rfl,hh,gX;refine⟨ha,la,va,n,ks,cr,ws,fp,rfl,hA,hn,q1,q2,λhm hall v H1 s1 n1=>?_⟩;have rt:=hA.rt n hm;obtain⟨gl,gf⟩:=rt.gs (cr:=cr) λm mm=>hA.rt m (hall m mm);have q3:=q3 hm hall;generalize (cr n).gs cr=gs at*;obtain⟨da,xs,dfp,rfl,da0,hda,hfr,_⟩:=ak.lso n1;have rX:=aj.duties hfr;have lx:=rX.1;nomatch da,rfl,⟨_,ao.of hda⟩;refine cG (dO (ao.of hda)) (gs.map λg=>gL (gm g.1 g.2)) (by rw[aT];exact lx) (br (by omega)) (λj x d H2 R hj hd s2 hx hR=>?_) (λv H2 s2 n2=>?_)
 ·rw[aM]at hd;obtain⟨g,hg,rfl⟩:=bV.mp hd;obtain⟨T,ga,na,rfl,hT,hga,hL⟩:=(rX.2 j g x hg hx).same s2;obtain⟨k9,k4,k99⟩:=gf g (cq hg);obtain⟨ys,hna,lys,rys⟩:=hL.out (K:=K);nofun;exact⟨T,ga,na,g.1,g.2,ys,rfl,aB.of hT,hga,hna,rys,k9,k99,by omega,λv H3 s3 n3=>hR v H3 s3 n3⟩
 have s02:=s1.trans s2;have n02:=n2.back s1;obtain⟨ra,rvs,rfp,rfl,ra0,hra,hrr,_⟩:=ak.lso n02;have lr:=hrr.length;rw[aT]at lr;nofun;have hnon:∀(j:Nat) g x,gs[j]?=some g->rvs[j]?=some x->decide (x=V.non)=!(gm g.1 g.2).isSome:=λj g x e1 e2=>by obtain⟨f,hf⟩:=aj.item hrr j (gL (gm g.1 g.2)) x (by rw[aM,e1];rfl) e2;cases hs:gm g.1 g.2 with
  |none=>rw[hs]at hf;unfold gL ai at hf;rw[hf.1];rfl|some r=>obtain⟨w,r⟩:=r;rw[hs]at hf;unfold gL ai at hf;obtain⟨a,_,e,_⟩:=hf;rw[e,vZ];rfl
 with_reducible refine jH (λσ H'=>σ=[some (.ref ha),some (.int n),some (.ref ra)]/\∃ ws',aX [va] H2 H'/\cc (C 6) (C 0) H' ha la va ks cr ws' fp/\(∀ m,m∈ws'↔m∈ws\/(m=n/\mE gs))/\ak H H' (.lst (gs.map λg=>gL (gm g.1 g.2))) (.ref ra)) (λNX tail=>?_) ?_
 ·nofun;nomatch ra,rfl,⟨_,ao.of hra⟩;refine cG (dO (ao.of hra)) ((gs.map λg=>(gm g.1 g.2).isSome).map D.bl) (by simp[lr]) (br (by omega)) (λj x d H3 R hj hd s3 hx hR=>?_) (λv H3 s3 n3=>?_)
  ·rw[aM,aM]at hd;obtain⟨b,hb,rfl⟩:=bV.mp hd;obtain⟨g,hg,rfl⟩:=bV.mp hb;nofun;nomatch rfl;rw[hnon j g x hg hx,Bool.not_not];exact hR _ _ (ae.refl _) ak.bl
  obtain⟨ba,rfl,ba0,hba⟩:=ak.bls n3;nofun;refine km (ao.of hba) ?_;have s03:=s02.trans s3;cases hb:(gs.map λg=>(gm g.1 g.2).isSome).all id with
  |true=>
   have af:mE gs:=λg hg=>by rw[OT,OJ]at hb;exact hb g hg
   have hA3:=hA.same s03;obtain⟨dx3,hh3⟩:=hA3.ins;obtain⟨kv,hva,hkv⟩:=hA3.vou;nofun;exists ha,(C 6),dx3,_,_,rfl,hh3,Z.Qx,Z.QG,ug _ _;have kl:=hkv.len;have vl:=hA3.vfew;nomatch va,_,rfl,eN.k (k:=.inl n) hva (j4 (by omega));have put:=hkv.put (m:=n) (v:=.bl true) rfl;have wss:∀ m,m∈(if n∈ws then ws else ws++[n])↔m∈ws\/m=n:=λm=>by
    by_cases z:n∈ws
    ·rw[Ol z];exact⟨.inl,λw=>by rcases w with w|w;exact w;rw[w];exact z⟩
    ·rw[Oh z];simp
   refine tail _ _ ⟨rfl,_,s3.offA.trans (hX (by simp)),hA3.putV put λm hm'=>?_,λm=>?_,(n02.same s3).sq (og hva).sq⟩
   ·rcases(wss m).mp hm' with w|w
    ·exact hA.sub m w
    ·rw[w];exact hm
   ·rw[wss];exact⟨λz=>by rcases z with z|z;exact .inl z;exact .inr ⟨z,af⟩,λz=>by rcases z with z|z;exact .inl z;exact .inr z.1⟩|false=>
   have af:¬ mE gs:=λz=>by
    have:(gs.map λg=>(gm g.1 g.2).isSome).all id=true:=by rw[OT,OJ];exact z
    rw[this]at hb;cases hb
   nofun;exact tail _ _ ⟨rfl,ws,s3.offA,hA.same s03,λm=>⟨.inl,λz=>by rcases z with z|z;exact z;exact OE z.2 af⟩,n02.same s3⟩
 rintro σ H3 ⟨rfl,ws3,o3,hA3,hm3,n3⟩;nofun;exact q3 _ _ ws3 (s02.offA.trans o3) hA3 hm3 n3
inductive AJ (K:Fg)(C:Nat->Q2)(vs:Ry)(H:Hp)(Q:VK)(E:XK):Prop|mk (ha la va:Q2) (n:Int) (ks:Rv) (cr:Int->Cr) (ws:Rv) (fp:Rz):vs=[.ref ha,.int n]->cc (C 6) (C 0) H ha la va ks cr ws fp->Q (.bl (decide (n∈ws))) H->AJ K C vs H Q E
include B Z in
theorem Mf (F:aN K "held" "Hall.held" yc f fd)(M:bq K (C 6) "held" f):bF bH P w K mg b8 (C 6) "held" ["self","number"] 1 (AJ K C):=by
 refine d5 F M L4 λ_ _ _ _ H vs Q E hr h=>?_;obtain⟨ha,la,va,n,ks,cr,ws,fp,rfl,hA,q⟩:=h;nomatch _,(aw (aF (Ht (vJ (bS hr) (pv 1) (jf K 0)))));obtain⟨dx,hh⟩:=hA.ins;obtain⟨kvs,hva,hk⟩:=hA.vou;nofun;nomatch ha,(C 6),dx,_,_,rfl,hh,Z.Qx,Z.QG,ug _ _;nomatch va,_,rfl,bh.k (k:=.inl n) hva;by_cases hm:n∈ws
 ·obtain⟨v,hv,_⟩:=hk.2.2 n hm;rw[hv];rw[Og hm]at q;exact q
 ·rw[hk.no hm];rw[Oq hm]at q;exact q
inductive cp (ks:Rv)(cr:Int->Cr)(n:Int):Int->Prop|me:cp ks cr n n|go {m k:Int}:cp ks cr n m->k∈fC ks cr m->cp ks cr n k
inductive AI (K:Fg)(C:Nat->Q2)(vs:Ry)(H:Hp)(Q:VK)(E:XK):Prop|mk (ha la va:Q2) (n:Int) (ks:Rv) (cr:Int->Cr) (ws:Rv) (fp:Rz) (us:Rv):vs=[.ref ha,.int n]->cc (C 6) (C 0) H ha la va ks cr ws fp->n∈us->(∀ m,∀ k∈fC ks cr m,k∈us)->us.length<64->(∀ l H' (rs:Rv),ae H H'->H l=none->H' l=some (.lst (rs.map V.int))->(∀ m,m∈rs↔cp ks cr n m)->rs.Pairwise (·<=·)->rs.Nodup->Q (.ref l) H')->AI K C vs H Q E
theorem GF {ks:Rv}{cr:Int->Cr}(h:∀ m∈ks,(cr m).Rt)(m:Int):(fC ks cr m).length<=8:=by
 unfold fC;split
 ·rename_i z;have:=(h m z).parts.2.2.1.2;have:(cK (cr m).P9).length<=(cr m).P9.length:=List.length_filterMap_le _ _;omega
 ·simp
include B Z Q53 in
theorem Mu (F:aN K "reach" "Hall.reach" yw f fd)(M:bq K (C 6) "reach" f):bF bH P w K mg b8 (C 6) "reach" ["self","number"] 3 (AI K C):=by
 refine d5 F M uB λ_ _ _ _ H vs Q E hr h=>?_;obtain⟨ha,la,va,n,ks,cr,ws,fp,us,rfl,hA,nu,hu,lu,q⟩:=h;refine⟨_,(av (js 2 uB.nd pT)
   (av (js 3 uB.nd (bu (jn 1 ag)))
   (av (tW RN (vA K (pv 3)) (av (js 4 uB.nd (B7 PM PySem.F.slot_list_pop PySem.F.type_list_pop B6 (pv 3)))
   (aw (bb (lF (oG (bS hr) (pv 4) (pv 2))) (av (pG (bS hr) (pv 2) (pv 4) gZ rfl)
   (aw (dA (nE PM PySem.F.slot_list_extend PySem.F.type_list_extend Ef (pv 3) (bv (cN Q53 Z.Qx hr bZ (pv 0) (jn 4 ag)) ag))))) bp))))
   (aw (aF (b9 (EU rfl) rfl B.sorted L2.EL (jn 2 ag))))))),?_⟩
 nofun;left;nofun;intro ra ra0;have s1:=ax ra0 (.dK []);have hra1:(upd H ra (.dK [])) ra=some (.dK []):=aq;generalize upd H ra (.dK [])=H1 at*;nofun;left;nofun;refine⟨(by right),λwa wa1=>?_⟩;have s2:=s1.trans (ax wa1 (.lst [V.int n]));have hra2:=ax wa1 (.lst [V.int n]) _ _ hra1;have wa0:=s1.free wa1;have hwa2:(upd H1 wa (.lst [V.int n])) wa=some (.lst ([n].map V.int)):=aq;generalize upd H1 wa (.lst [V.int n])=H2 at*;nofun;with_reducible refine jH (λσ H'=>E3 λx4 kvs rs=>A6 (σ=[some (.ref ha),some (.int n),some (.ref ra),some (.ref wa),x4]) (ae H H') (H' ra=some (.dK kvs)) (cD (λ_ v=>v=.bl true) kvs rs) ((∀ m,m∈rs↔cp ks cr n m)) (rs.length<64)) (λNX tail=>?_) ?_
 ·refine⟨(λm σ H'=>E4 λx4 kvs wt rs=>FK (σ=[some (.ref ha),some (.int n),some (.ref ra),some (.ref wa),x4]) (m=9*(us.length - rs.length)+wt.length) (ae H H') (H' ra=some (.dK kvs)) (H' wa=some (.lst (wt.map V.int))) (cD (λ_ v=>v=.bl true) kvs rs) ((∀ m,m∈rs\/m∈wt->cp ks cr n m/\m∈us)) ((∀ m∈rs,∀ k∈fC ks cr m,k∈rs\/k∈wt)) ((n∈rs\/n∈wt)) (9*(us.length - rs.length)+wt.length<=600)),⟨_,none,[],[n],[],rfl,rfl,s2,hra2,hwa2,cD.nil,(λm hm=>by
   rcases hm with z|z
   ·cases z
   ·rw[bn.mp z];exact⟨.me,nu⟩),(λm hm=>by cases hm),.inr (bn.mpr rfl),by simp;omega⟩,?_⟩
  rintro m σ H3 ⟨x4,kvs,wt,rs,rfl,rfl,s3,hra3,hwa3,hk3,ru3,cl3,n3,l3⟩;have rlen:rs.length<=us.length:=n_ hk3.2.1 λm hm=>(ru3 m (.inl hm)).2;nofun;refine vL (ao.of hwa3) ?_;rcases List.eq_nil_or_concat wt with rfl|⟨wt,o,rfl⟩
  ·nofun;refine tail _ _ ⟨x4,kvs,rs,rfl,s3,hra3,hk3,λm=>⟨λz=>(ru3 m (.inl z)).1,λz=>?_⟩,by omega⟩;induction z with
   |me=>exact n3.resolve_right (by simp)|go _ hk ih=>exact(cl3 _ ih _ hk).resolve_right (by simp)
  ·have e:(wt.concat o).map V.int=wt.map V.int++[V.int o]:=by rw[List.concat_eq_append,OF];rfl
   rw[e]at hwa3;rw[e];rw[List.length_concat]at l3 ⊢;have mo:∀{x:Int},x∈wt.concat o↔x∈wt\/x=o:=λ{x}=>by rw[List.concat_eq_append,bW,bn]
   obtain⟨ro,uo⟩:=ru3 o (.inr (mo.mpr (.inr rfl)));have nwr:ra≠wa:=sT hra3 hwa3 (by intro z;cases z);rw[show(!(wt.map V.int++[V.int o]).isEmpty)=true by cases wt<;>rfl];nofun;exists (λσ H'=>E4 λx4 kvs wt' rs'=>A9 (σ=[some (.ref ha),some (.int n),some (.ref ra),some (.ref wa),x4]) (9*(us.length - rs'.length)+wt'.length<9*(us.length - rs.length)+(wt.length+1)) (ae H H') (H' ra=some (.dK kvs)) (H' wa=some (.lst (wt'.map V.int))) (cD (λ_ v=>v=.bl true) kvs rs') ((∀ m,m∈rs'\/m∈wt'->cp ks cr n m/\m∈us)) ((∀ m∈rs',∀ k∈fC ks cr m,k∈rs'\/k∈wt')) ((n∈rs'\/n∈wt'))),λσ' H' ⟨y4,kvs',wt',rs',z1,z2,z3,z4,z5,z6,z7,z8,z9⟩=>⟨_,z2,y4,kvs',wt',rs',z1,rfl,z3,z4,z5,z6,z7,z8,z9,by omega⟩;left;nofun;exists lS hwa3;refine Bw hwa3 (y:=.int o) (by rw[OA];simp) ?_;rw[List.dropLast_concat];have s4:ae H (upd H3 wa (.lst (wt.map V.int))):=s3.put wa0;have hwa4:(upd H3 wa (.lst (wt.map V.int))) wa=some (.lst (wt.map V.int)):=aq;have hra4:(upd H3 wa (.lst (wt.map V.int))) ra=some (.dK kvs):=by rw[aC nwr];exact hra3
   generalize upd H3 wa (.lst (wt.map V.int))=H4 at*;nofun;by_cases ho:o∈rs
   ·obtain⟨v,e1,_⟩:=hk3.2.2 o ho;refine⟨ra,some v,rfl,by rw[<-e1];exact bh.k (k:=.inl o) hra4,?_⟩;dsimp only[R_];nofun;nomatch _,kvs,wt,rs,rfl,by omega,s4,hra4,hwa4,hk3,λm hm=>ru3 m (hm.imp_right λz=>mo.mpr (.inl z)),λm hm k hk=>?_
    ·rcases cl3 m hm k hk with z|z
     ·exact .inl z
     ·rcases mo.mp z with w|w
      ·exact .inr w
      ·rw[w];exact .inl ho
    ·rcases n3 with z|z
     ·exact .inl z
     ·rcases mo.mp z with w|w
      ·exact .inr w
      ·rw[w];exact .inl ho
   ·refine⟨ra,none,rfl,by rw[<-hk3.no ho];exact bh.k (k:=.inl o) hra4,?_⟩;dsimp only[R_];have kl:=hk3.len;nofun;left;nofun;nomatch ra,_,rfl,eN.k (k:=.inl o) hra4 (j4 (by omega));have put:=hk3.put (m:=o) (v:=.bl true) rfl;rw[Oh ho]at put;have s5:ae H (upd H4 ra (.dK (aZ kvs (.inl o) (.bl true)))):=s4.put ra0;have hra5:(upd H4 ra (.dK (aZ kvs (.inl o) (.bl true)))) ra=some (.dK (aZ kvs (.inl o) (.bl true))):=aq;have hwa5:(upd H4 ra (.dK (aZ kvs (.inl o) (.bl true)))) wa=some (.lst (wt.map V.int)):=by rw[aC nwr.symm];exact hwa4
    generalize upd H4 ra (.dK (aZ kvs (.inl o) (.bl true)))=H5 at*;have hA5:=hA.same s5;obtain⟨dx,hh⟩:=hA5.ins;nofun;exists lS hwa5;exists ha,dx,_,rfl,hh,gX;refine⟨ha,la,va,o,ks,cr,ws,fp,rfl,hA5,λv H6 s6 n6=>?_⟩;obtain⟨ca,rfl,ca0,hca⟩:=ak.iif.mp n6;have c8:=GF hA.rt o;nofun;refine⟨wa,ca,_,_,rfl,rfl,s6 _ _ hwa5,hca,OI (m:=1000) (by rw[aT,aT];omega) (by decide),?_⟩;have s7:ae H (upd H6 wa (.lst (wt.map V.int++(fC ks cr o).map V.int))):=(s5.trans s6).put wa0;have rl2:rs.length<us.length:=by
     have:=n_ (l:=rs++[o]) (m:=us) put.2.1 λm hm=>by
      rcases bW.mp hm with z|z
      ·exact(ru3 m (.inl z)).2
      ·rw[bn.mp z];exact uo
     rw[OA]at this;exact this
    nofun;refine⟨_,_,wt++fC ks cr o,rs++[o],rfl,by rw[OA,OA];show 9*(us.length - (rs.length+1))+_<_;omega,s7,by rw[aC nwr];exact s6 _ _ hra5,by rw[aq,OF],put,λm hm=>?_,λm hm k hk=>?_,?_⟩
    ·rcases hm with z|z
     ·rcases bW.mp z with w|w
      ·exact ru3 m (.inl w)
      ·rw[bn.mp w];exact⟨ro,uo⟩
     ·rcases bW.mp z with w|w
      ·exact ru3 m (.inr (mo.mpr (.inl w)))
      ·exact⟨.go ro w,hu o m w⟩
    ·rcases bW.mp hm with z|z
     ·rcases cl3 m z k hk with w|w
      ·exact .inl (OK _ w)
      ·rcases mo.mp w with y|y
       ·exact .inr (OK _ y)
       ·rw[y];exact .inl (Oz _ (bn.mpr rfl))
     ·rw[bn.mp z]at hk;exact .inr (Oz _ hk)
    ·rcases n3 with z|z
     ·exact .inl (OK _ z)
     ·rcases mo.mp z with w|w
      ·exact .inr (OK _ w)
      ·rw[w];exact .inl (Oz _ (bn.mpr rfl))
 rintro σ H3 ⟨x4,kvs,rs,rfl,s3,hra3,hk3,hrs,l64⟩;nofun;refine CS hra3 hk3.1 l64 λl rs' l0 pm so=>?_;exact q l _ rs' (s3.trans (ax l0 _)) (s3.free l0) aq (λm=>by rw[pm.mem_iff];exact hrs m) so (pm.nodup_iff.mpr hk3.2.1)
inductive AH (K:Fg)(C:Nat->Q2)(vs:Ry)(H:Hp)(Q:VK)(E:XK):Prop|mk (ha la va:Q2) (n:Int) (ks:Rv) (cr:Int->Cr) (ws:Rv) (fp:Rz) (us:Rv):vs=[.ref ha,.int n]->cc (C 6) (C 0) H ha la va ks cr ws fp->n∈us->(∀ m,∀ k∈fC ks cr m,k∈us)->us.length<64->(∀ H' b,ae H H'->(b=true↔∀ m,cp ks cr n m->m∈ws)->Q (.bl b) H')->AH K C vs H Q E
include B Z in
theorem Mt (Q49:bF bH P w K mg b8 (C 6) "held" ["self","number"] 1 (AJ K C))(Q4b:bF bH P w K mg b8 (C 6) "reach" ["self","number"] 3 (AI K C))(F:aN K "sworn" "Hall.sworn" yv f fd)(M:bq K (C 6) "sworn" f):bF bH P w K mg b8 (C 6) "sworn" ["self","number"] 4 (AH K C):=by
 refine d5 F M Fc λ_ _ _ _ H vs Q E hr h=>?_;obtain⟨ha,la,va,n,ks,cr,ws,fp,us,rfl,hA,nu,hu,lu,q⟩:=h;nomatch _,(aw (aF (b9 (kj K rfl) rfl B.all L2.kK (iH (jC (bB.f Fc ["self","number","other"] [false,false,true]) (c_ K (cN Q4b Z.Qx hr bZ (pv 0) (jn 1 ag))) (λn=>(jg 2 n)) (cN Q49 Z.Qx hr bZ (pv 0) (jn 2 ag))) ag))));obtain⟨dx,hh⟩:=hA.ins;nofun;exists ha,dx,_,rfl,hh,gX;refine⟨ha,la,va,n,ks,cr,ws,fp,us,rfl,hA,nu,hu,lu,λl H1 rs s1 l0 hl hrs so nd=>?_⟩;have rl:rs.length<=us.length:=n_ nd λm hm=>by cases(hrs m).mp hm with
  |me=>exact nu|go _ hk=>exact hu _ _ hk
 have hA1:=hA.same s1;nomatch l,rfl,⟨_,ao.of hl⟩;refine cG (dO (ao.of hl)) ((rs.map λm=>decide (m∈ws)).map D.bl) (by simp) (br (by simp;omega)) (λj x d H2 R hj hd s2 hx hR=>?_) (λv H2 s2 n2=>?_)
 ·rw[aM]at hx;obtain⟨m,hm,rfl⟩:=bV.mp hx;rw[aM,aM,hm]at hd;cases hd;have hA2:=hA1.same s2;obtain⟨dx2,hh2⟩:=hA2.ins;nofun;exists ha,dx2,_,rfl,hh2,gX;nomatch ha,la,va,m,ks,cr,ws,fp,rfl,hA2;exact hR _ _ (ae.refl _) ak.bl
 obtain⟨ba,rfl,ba0,ba1⟩:=ak.bls n2;nofun;refine km (ao.of ba1) ?_;refine q _ _ (s1.trans s2) ?_;rw[OJ];constructor
 ·intro z m hm;have:=z (decide (m∈ws)) (bU.mpr ⟨m,(hrs m).mpr hm,rfl⟩);exact Ot this
 ·intro z b hb;obtain⟨m,hm,rfl⟩:=bU.mp hb;exact Og (z m ((hrs m).mp hm))
inductive AA (K:Fg)(C:Nat->Q2)(vs:Ry)(H:Hp)(Q:VK)(E:XK):Prop|mk (p dx g:Q2) (n a0 a1:Int):vs=[.ref p,.int n,.ref g]->H p=some (.ins (C 7) dx [])->(ao K H g [.int a0,.int a1]\/aB K H g [.int a0,.int a1])->(∀ ha aa H',H ha=none->H aa=none->ha≠aa->aX [p] H H'->H' p=some (.ins (C 7) dx (dZ n 0 ha aa))->H' ha=some (.lst [.int a0,.int a1,.int 0,.int 0])->H' aa=some (.lst [.int a0,.int a1])->Q .non H')->AA K C vs H Q E
theorem nZ{g:Q2}(e:Sq H H')(h:ao K H g xs\/aB K H g xs):ao K H' g xs\/aB K H' g xs:=by
 rcases h with h|h
 ·exact .inl (e.lst h)
 ·exact .inr (e.tup h)
include B Z in
theorem Jb (F:aN K "__init__" "Frame.__init__" y_ f fd)(M:Mk K (C 7) f):kZ P w K mg b8 "Frame" (C 7) ["self","number","asked"] 1 (AA K C):=by
 refine zM F M NF Z.Rm λ_ _ _ _ H vs Q E hr h=>?_;obtain⟨p,dx,g,n,a0,a1,rfl,hp,hg,q⟩:=h;refine⟨_,(av (d0 (pv 0) (pv 1) rfl)
   (av (d0 (pv 0) ah rfl)
   (av (d0 (pv 0) (bu (bc (jx K (pv 2) ah) (bc (jx K (pv 2) ah) (jk (jk ag))))) rfl)
   (aw (d0 (pv 0) (bu (bc (jx K (pv 2) ah) (bc (jx K (pv 2) ah) ag))) rfl))))),?_⟩
 left;nofun;refine⟨p,(C 7),dx,[],rfl,hp,Z.Qm,Z.QK,by show 0<1000;decide,?_⟩;have q1:Sq H (upd H p (.ins (C 7) dx (ar "number" (.int n) []))):=jI hp rfl;left;nofun;nomatch p,(C 7),dx,_,rfl,aq,Z.Qm,Z.Qp,Ov (ej (n:=1) (by decide)) (by decide);have q2:=q1.trans (jI (o:=.ins (C 7) dx (ar "place" (.int 0) (ar "number" (.int n) []))) aq rfl);have o2:aX [p] H (upd (upd H p (.ins (C 7) dx (ar "number" (.int n) []))) p (.ins (C 7) dx (ar "place" (.int 0) (ar "number" (.int n) [])))):=(hX (by simp)).trans (hX (by simp));have p2:(upd (upd H p (.ins (C 7) dx (ar "number" (.int n) []))) p (.ins (C 7) dx (ar "place" (.int 0) (ar "number" (.int n) [])))) p=some (.ins (C 7) dx (ar "place" (.int 0) (ar "number" (.int n) []))):=aq;have fr2:cE H (upd (upd H p (.ins (C 7) dx (ar "number" (.int n) []))) p (.ins (C 7) dx (ar "place" (.int 0) (ar "number" (.int n) [])))):=j0.trans j0;generalize (upd (upd H p (.ins (C 7) dx (ar "number" (.int n) []))) p (.ins (C 7) dx (ar "place" (.int 0) (ar "number" (.int n) []))))=H2 at q2 o2 p2 fr2;have hg2:=nZ q2 hg;left;nofun;refine wq hg2 ?_;nofun;refine wo hg2 ?_;nofun;refine⟨(by right),λha ha0=>?_⟩;have s3:=ax ha0 (.lst [V.int a0,.int a1,.int 0,.int 0]);have nh:ha≠p:=(cj p2 ha0).symm;nofun;nomatch p,(C 7),dx,_,rfl,s3 _ _ p2,Z.Qm,Z.Qs,Ov (ej (n:=2) (ej (n:=1) (by decide))) (by decide);have q4:=s3.sq.trans (jI (o:=.ins (C 7) dx (ar "hands" (.ref ha) (ar "place" (.int 0) (ar "number" (.int n) [])))) (s3 _ _ p2) rfl);have hg4:=nZ q4 hg2;nofun;refine wq hg4 ?_;nofun;refine wo hg4 ?_;nofun;refine⟨(by right),λaa aa0=>?_⟩;have na:aa≠p:=λz=>by rw[z,aq]at aa0;cases aa0
 have nah:aa≠ha:=λz=>by rw[z,aC nh,aq]at aa0;cases aa0
 have aa2:H2 aa=none:=by rw[aC na,aC nah]at aa0;exact aa0
 nofun;nomatch p,(C 7),dx,_,rfl,by rw[aC na.symm,aq],Z.Qm,Z.QP,Ov (ej (n:=3) (ej (n:=2) (ej (n:=1) (by decide)))) (by decide);rw[GZ];refine q ha aa _ (fr2 _ ha0) (fr2 _ aa2) nah.symm (λb o nb e=>?_) aq ?_ ?_
 ·have nb':b≠p:=λz=>nb (by simp[z]);have e2:=o2 b o nb e;rw[aC nb',aC (cj e2 aa2),aC nb',aC (cj e2 ha0)];exact e2
 ·rw[aC nh,aC nah.symm,aC nh,aq]
 ·rw[aC na,aq]
inductive Az (K:Fg)(C:Nat->Q2)(vs:Ry)(H:Hp)(Q:VK)(E:XK):Prop|mk (p dx ha aa:Q2) (f:Fm):vs=[.ref p]->H p=some (.ins (C 7) dx (dZ f.n f.p ha aa))->H ha=some (.lst (f.Qi.map V.int))->H aa=some (.lst (f.asked.map V.int))->f.Qi.length=4->f.asked.length=2->(∀ na H',ae H H'->H' na=some (.lst ((cA f).map V.int))->Q (.ref na) H')->Az K C vs H Q E
include B Z in
theorem Nl (F:aN K "numbers" "Frame.numbers" zg f fd)(M:bq K (C 7) "numbers" f):bF bH P w K mg b8 (C 7) "numbers" ["self"] 1 (Az K C):=by refine d5 F M Np λ_ _ _ _ H vs Q E hr h=>?_;obtain⟨p,dx,ha,aa,f,rfl,hp,hh,haa,l4,l2,q⟩:=h;exists _,(aw (aF (jp K (jp K (jf K 0) (jf K 0)) (i4 (eE K) (jf K 0) iX (iW ah)))));exists p,(C 7),dx,_,_,rfl,hp,Z.Qm,Z.Qs,iY _ _ _ _;nomatch p,(C 7),dx,_,_,rfl,hp,Z.Qm,Z.QP,IQ _ _ _ _;refine dW hh haa (br (by simp[l4,l2])) λp1 hp1=>?_;have t1:=ax hp1 (.lst (f.Qi.map V.int++f.asked.map V.int));nofun;exists p,(C 7),dx,_,_,rfl,t1 _ _ hp,Z.Qm,Z.Qs,iY _ _ _ _;refine lq (ao.of (t1 _ _ hh)) λp2 hp2=>?_;rw[Kl (by decide)];have t2:=ax hp2 (.lst ((f.Qi.map V.int).take (2:Int).toNat));nofun;refine dW (t2 _ _ aq) aq (br (by simp[l4,l2])) λp3 hp3=>?_;refine q _ _ (t1.trans (t2.trans (ax hp3 _))) ?_;rw[aq];unfold cA;rw[OF,OF,List.map_take];rfl
inductive Aj (K:Fg)(C:Nat->Q2)(vs:Ry)(H:Hp)(Q:VK)(E:XK):Prop|mk (r ka ia sa:Q2) (ks:Rv) (cr:Int->Cr) (Qj:List Fa) (s:Rs) (Qq:Rz) (p dx ha aa:Q2) (f:Fm):vs=[.ref r,.ref p]->aA (C 8) (C 7) (C 0) H r ka ia sa ks cr Qj s Qq->H p=some (.ins (C 7) dx (dZ f.n f.p ha aa))->f.n∈ks->(∀ q g,dH (C 0) H q (cr f.n) g->Q (.ref q) H)->Aj K C vs H Q E
include B Z in
theorem M3 (F:aN K "craft_of" "Run.craft_of" yO f fd)(M:bq K (C 8) "craft_of" f):bF bH P w K mg b8 (C 8) "craft_of" ["self","frame"] 1 (Aj K C):=by refine d5 F M M9 λ_ _ _ _ H vs Q E hr h=>?_;obtain⟨r,ka,ia,sa,ks,cr,Qj,s,Qq,p,dx,ha,aa,f,rfl,A',hp,hn,q⟩:=h;nomatch _,(aw (aF (jU (bS hr) (jf K 0) (jf K 1) (λ_ _=>rfl))));obtain⟨dr,ev,hr',_⟩:=A'.ins;obtain⟨kvs,o,g,e1,e2,e3⟩:=A'.kn.craft hn;nofun;exists r,(C 8),dr,_,_,rfl,hr',Z.Qk,Z.QH,pL;nomatch p,(C 7),dx,_,_,rfl,hp,Z.Qm,Z.QK,xk _ _ _ _;refine⟨ka,.ref o,rfl,by rw[<-e2];exact bh.k (k:=.inl f.n) e1,?_⟩;exact q o g e3
inductive An (K:Fg)(C:Nat->Q2)(vs:Ry)(H:Hp)(Q:VK)(E:XK):Prop|mk (r ka ia sa:Q2) (ks:Rv) (cr:Int->Cr) (Qj:List Fa) (s:Rs) (Qq:Rz) (f:Fm) (st:List Fm):vs=[.ref r]->aA (C 8) (C 7) (C 0) H r ka ia sa ks cr Qj s Qq->s.st=f::st->iP ks cr f->(cr f.n).Rt->Q (.bl (decide (f.p=((cr f.n).P9.length:Int)))) H->An K C vs H Q E
variable (Q74:bF bH P w K mg b8 (C 8) "craft_of" ["self","frame"] 1 (Aj K C))
include B Z Q74 in
theorem NL (F:aN K "is_behind_last_deed" "Run.is_behind_last_deed" zl f fd)(M:bq K (C 8) "is_behind_last_deed" f):bF bH P w K mg b8 (C 8) "is_behind_last_deed" ["self"] 2 (An K C):=by
 refine d5 F M Fu λ_ _ _ _ H vs Q E hr h=>?_;obtain⟨r,ka,ia,sa,ks,cr,Qj,s',Qq,f,st,rfl,A',hst,wf,rt,q⟩:=h;refine⟨_,(av (js 1 Fu.nd (jx K (jf K 0) (dG dL ah)))
   (aw (aF (jE K hr (jf K 1) (b9 (dw K) rfl B.len L2.boot_len (dD (lm K (cN Q74 Z.Qk hr bZ (pv 0) (jn 1 ag)) rfl) ag)))))),?_⟩
 obtain⟨dr,ev,hr',_⟩:=A'.ins;have fr:=A'.fr;rw[hst]at fr;cases Qj with
 |nil=>exact fr.elim|cons t Qj=>obtain⟨p,ha,aa⟩:=t;obtain⟨⟨dp,f1⟩,_⟩:=fr;left;nofun;exists r,(C 8),dr,_,_,rfl,hr',Z.Qk,Z.Qr,hV;refine bK (ao.of A'.sta) (v:=.ref p) ky ?_;nofun;exists p,(C 7),dp,_,_,rfl,f1,Z.Qm,Z.Qp,jX _ _ _ _;exists r,dr,_,rfl,hr',dm;refine⟨r,ka,ia,sa,ks,cr,(p,ha,aa)::Qj,s',Qq,p,dp,ha,aa,f,rfl,A',f1,wf.m,λo g hC=>?_⟩;obtain⟨dx,y1,y2,b3,b4,Qy,QI,ho,_,_,h3,hD,_⟩:=hC.out (K:=K) rt.nine.d9;nofun;exists o,(C 0),dx,_,_,rfl,ho,Z.Qn,Z.Qt,iq _ _ _ _;refine dF (.inl (ao.of h3)) ?_;refine Br ?_;have e:Qy.length=(cr f.n).P9.length:=hD.1.symm;rw[e];exact q
inductive uP (K:Fg)(vs:Ry)(H:Hp)(Q:VK)(E:XK):Prop|mk (la na:Q2) (ls:Rw) (ns:Rv):vs=[.ref la,.ref na]->jN K H la ls->ao K H na (ns.map V.int)->ns.length=8->(∀ l∈ls,l.length=9/\Sm l)->(∀ H',ae H H'->Q (sj (cL ls ns)) H')->uP K vs H Q E
theorem Cs{ls:Rw}(h1:jN K H la ls)(h2:ao K H na (ns.map V.int))(h3:ns.length=8)(h4:∀ l∈ls,l.length=9/\Sm l)(q:∀ H',ae H H'->Q (sj (cL ls ns)) H'):uP K [.ref la,.ref na] H Q E:=⟨la,na,ls,ns,rfl,h1,h2,h3,h4,q⟩
variable {i:Nat}
theorem M_{ls:Rw}{P:Rv->Bool}(h:(ls.take i).findIdx? P=none)(e:ls[i]?=some l)(hp:P l=false):(ls.take (i+1)).findIdx? P=none:=by rw[O5,e,List.findIdx?_append,h];simp[hp]
variable (Q1:Fn P w K mg b8 "holds" ["line","numbers"] 2 (xt K))
include B Z Q1 in
theorem MM (F:aN K "first_unmet" "first_unmet" yg f fd)(m:mg "first_unmet"=some (.ref f)):Fn P w K mg b8 "first_unmet" ["lines","numbers"] 3 (uP K):=by
 refine bQ F yV m λ_ _ _ _ H vs Q E hr h=>?_;obtain⟨la,na,ls,ns,rfl,⟨xs,QF,hxs⟩,hna,n8,h9,q⟩:=h;refine⟨_,(av (gx RN rfl (v6 K rfl B.enumerate (jn 0 ag)) (mv K (n:=2) rfl (fB (jg 2 yV.nd) (fB (jg 3 yV.nd) lG))) (aw (bb (lE (gj (jl Q1 hr (jn 3 (jn 1 ag))))) (aw (aF (pv 2))) bp)))
   (aw (aF gk))),?_⟩
 have lx:=hxs.length;rw[aT]at lx;left;nofun;nomatch la,xs,rfl,QF;refine oh (J1 (ao.of QF)) (λi σ H2=>∃ x y,A3 (σ=[some (.ref la),some (.ref na),x,y]) (ae H H2) ((ls.take i).findIdx? (λl=>decide (aU l ns<0))=none))
  ⟨none,none,rfl,ae.refl _,rfl⟩ (λi σ H2 ⟨_,_,_,e,_⟩=>e) ?_ ?_
 ·rintro i v σ H2 H3 hi ⟨x,y,rfl,s2,hf⟩ s3 ⟨T,u,rfl,hT,hu'⟩;have s03:=s2.trans s3;obtain⟨d,hd,hru⟩:=au.get' hxs hu';rw[aM]at hd;obtain⟨l,hl,rfl⟩:=bV.mp hd;obtain⟨ua,rfl,hua⟩:=fO.mp (al.same s03 _ hru);obtain⟨l9,lsm⟩:=h9 l (cq hl);refine⟨T,_,rfl,aB.of hT,rfl,⟨_,_,rfl,?_⟩⟩;nomatch _,_,rfl;nomatch rfl;cases l with
  |nil=>simp at l9|cons c fs=>
  nofun;refine⟨ua,na,c,fs,ns,rfl,hua,s03.seq hna,by simpa using l9,n8,vR lsm,λH4 s4=>?_⟩;have ew:c+bY fs ns=aU (c::fs) ns:=(uq _ _ _).symm;rw[ew];dsimp only;by_cases hb:0<=aU (c::fs) ns
  ·rw[Og hb];nofun;exact⟨_,_,rfl,s03.trans s4,M_ hf hl (Oq (by omega))⟩
  ·rw[Oq hb];nofun;have e:cL ls ns=some i:=by unfold cL;rw[Kx hf hl,Ol (Og (by omega))]
   have:=q _ (s03.trans s4);rw[e]at this;exact this
 ·rintro σ H2 ⟨x,y,rfl,s2,hf⟩;nofun;rw[<-lx,Oy (On _)]at hf;have e:cL ls ns=none:=hf;have:=q _ s2;rw[e]at this;exact this
inductive Ai (K:Fg)(C:Nat->Q2)(vs:Ry)(H:Hp)(Q:VK)(E:XK):Prop|mk (r ka ia sa:Q2) (ks:Rv) (cr:Int->Cr) (Qj:List Fa) (s:Rs) (Qq:Rz) (w:Str) (la na:Q2) (ls:Rw) (ns:Rv) (f:Fm) (st:List Fm):vs=[.ref r,.str w,.ref la,.ref na]->aA (C 8) (C 7) (C 0) H r ka ia sa ks cr Qj s Qq->s.st=f::st->s.en=none->jN K H la ls->ao K H na (ns.map V.int)->ns.length=8->(∀ l∈ls,l.length=9/\Sm l)->(∀ H',aX [r] H H'->aA (C 8) (C 7) (C 0) H' r ka ia sa ks cr Qj {s with en:=(cL ls ns).map (brk w f)} Qq->Q (.bl (cL ls ns).isNone) H')->Ai K C vs H Q E
variable (Q78:Fn P w K mg b8 "first_unmet" ["lines","numbers"] 3 (uP K))
include B Z Q78 in
theorem Me (F:aN K "meets" "Run.meets" xZ f fd)(M:bq K (C 8) "meets" f):bF bH P w K mg b8 (C 8) "meets" ["self","word","lines","numbers"] 4 (Ai K C):=by
 refine d5 F M xP λ_ _ _ _ H vs Q E hr h=>?_;obtain⟨r,ka,ia,sa,ks,cr,Qj,s',Qq,w,la,na,ls,ns,f,st,rfl,A',hst,hen,hL,hN,n8,h9,q⟩:=h;refine⟨_,(av (js 4 xP.nd (jl Q78 hr (jn 2 (jn 3 ag))))
   (av (bb (jc wH (pv 4) gk) (av (js 5 xP.nd (jx K (jf K 0) (dG dL ah)))
   (aw (d0 (pv 0) (b_ (cM bJ (jn 1 (dD (jf K 5) (dD (jf K 5) (jn 4 ag)))))) rfl))) bp)
   (aw (aF (jv lD (pv 4) gk))))),?_⟩
 left;nofun;refine Cs hL hN n8 h9 λH1 s1=>?_;have A1:=A'.same s1;nofun;cases hb:cL ls ns with
 |none=>
  rw[hb]at q;have q:=q H1 s1.offA (by
   have e:({s' with en:=(none:Option Nat).map (brk w f)}:Rs)=s':=by cases s';cases hen;rfl
   rw[e];exact A1)
  with_reducible refine gi (λQ2 q2=>?_) ?_
  ·nofun;nomatch rfl;show ∃ k,V.bl (!decide (V.non=V.non))=.bl k/\_;rw[tI];nofun;exact q2
  ·nofun;nomatch rfl;show Q (.bl (decide (V.non=V.non))) H1;rw[tI];exact q|some i=>rw[hb]at q;have ei:∀ j:Int,decide (V.int j=V.non)=false:=λj=>Oq (by intro z;cases z);obtain⟨dr,ev,hr',_⟩:=A1.ins;have fr:=A1.fr;rw[hst]at fr;cases Qj with
  |nil=>exact fr.elim|cons t Qj=>
  obtain⟨p,ha,aa⟩:=t;obtain⟨⟨dp,f1⟩,_⟩:=fr;with_reducible refine jH (λσ H'=>σ=[some (.ref r),some (.str w),some (.ref la),some (.ref na),some (.int (i:Int)),some (.ref p)]/\aX [r] H1 H'/\aA (C 8) (C 7) (C 0) H' r ka ia sa ks cr ((p,ha,aa)::Qj) {s' with en:=some (brk w f i)} Qq) (λNX tail=>?_) ?_
  ·nofun;nomatch rfl;show ∃ k,V.bl (!decide (V.int (i:Int)=V.non))=.bl k/\_;rw[ei];nofun;left;nofun;exists r,(C 8),dr,_,_,rfl,hr',Z.Qk,Z.Qr,hV;refine bK (ao.of A1.sta) (v:=.ref p) ky ?_;nofun;exists p,(C 7),dp,_,_,rfl,f1,Z.Qm,Z.QK,xk _ _ _ _;exists p,(C 7),dp,_,_,rfl,f1,Z.Qm,Z.Qp,jX _ _ _ _;refine⟨(by right),λT hT=>?_⟩;have t2:=ax hT (.tup (brk w f i));nofun;refine⟨r,(C 8),dr,_,rfl,t2 _ _ hr',Z.Qk,Z.Qu,by show 5<1000;decide,?_⟩;rw[mG];refine tail _ _ ⟨rfl,t2.offA.trans (hX (by simp)),?_⟩;have:=(A1.same t2).setR (k':=s'.k) (en':=some (brk w f i)) (t2 _ _ hr') ⟨T,rfl,aq⟩;exact this
  ·rintro σ H2 ⟨rfl,o2,A2⟩;nofun;nomatch rfl;show Q (.bl (decide (V.int (i:Int)=V.non))) H2;rw[ei];exact q H2 (s1.offA.trans o2) A2
inductive Ak (K:Fg)(C:Nat->Q2)(vs:Ry)(H:Hp)(Q:VK)(E:XK):Prop|mk (r ka ia sa:Q2) (ks:Rv) (cr:Int->Cr) (Qj:List Fa) (s:Rs) (Qq:Rz) (g:Fm) (st:List Fm) (l0 l1:Int):vs=[.ref r,.int l0,.int l1]->aA (C 8) (C 7) (C 0) H r ka ia sa ks cr Qj s Qq->s.st=g::st->iP ks cr g->nK cr g->(∀ H',a_ (aJ r ia sa Qj) H (aJ r ia sa Qj) H'->aA (C 8) (C 7) (C 0) H' r ka ia sa ks cr Qj {s with st:=gW cr g l0 l1::st} Qq->Q .non H')->Ak K C vs H Q E
include B Z Q74 in
theorem LG (F:aN K "take" "Run.take" xG f fd)(M:bq K (C 8) "take" f):bF bH P w K mg b8 (C 8) "take" ["self","left_0","left_1"] 2 (Ak K C):=by
 refine d5 F M yf λ_ _ _ _ H vs Q E hr h=>?_;obtain⟨r,ka,ia,sa,ks,cr,Qj,s',Qq,g,st,l0,l1,rfl,A',hst,wf,hc,q⟩:=h;refine⟨_,(av (js 3 yf.nd (jx K (jf K 0) (dG dL ah)))
   (av (js 4 yf.nd (jx K (jx K (lm K (cN Q74 Z.Qk hr bZ (pv 0) (jn 3 ag)) rfl) (jf K 3)) ah))
   (av (nV (pv 1) (pc (jf K 3) (jx K (pv 4) ah) pU))
   (av (nV (pv 2) (pc (jf K 3) (jx K (pv 4) ah) pU))
   (aw (d0 (pv 3) (jp K (jf K 3) ah) rfl)))))),?_⟩
 have rt:=A'.kn.rt g.n wf.m;obtain⟨dr,ev,hr',_⟩:=A'.ins;have fr:=A'.fr;rw[hst]at fr;cases Qj with
 |nil=>exact fr.elim|cons t Qj=>obtain⟨p,ha,aa⟩:=t;obtain⟨⟨dp,f1⟩,f2,f3,f4⟩:=fr;have hlt:=hc.lt;obtain⟨m,g0,g1,t0,t1,hd⟩:=hc;have hok:=rt.parts.2.2.2.2.2 _ (cq hd);obtain⟨_,_,b0,b1,_⟩:=uf hok;have e4:=wf.h4;nofun;left;nofun;exists r,(C 8),dr,_,_,rfl,hr',Z.Qk,Z.Qr,hV;refine bK (ao.of A'.sta) (v:=.ref p) ky ?_;nofun;left;nofun;exists r,dr,_,rfl,hr',dm;refine⟨r,ka,ia,sa,ks,cr,(p,ha,aa)::Qj,s',Qq,p,dp,ha,aa,g,rfl,A',f1,wf.m,λo gg hC=>?_⟩;obtain⟨dx,y1,y2,b3,b4,Qy,QI,ho,_,_,h3,hD,_⟩:=hC.out (K:=K) rt.nine.d9;have ld:=hD.1;have hx:=Om (l:=Qy) (i:=g.p.toNat) (by omega);obtain⟨T,ys,hT,hT2,px⟩:=fQ (hD.2 _ _ _ hd hx);obtain⟨x0,ys,rfl,e0,px⟩:=bR px;obtain⟨x1,ys,rfl,e1,px⟩:=bR px;obtain⟨x2,ys,rfl,e2,px⟩:=bR px;obtain⟨x3,ys,rfl,e3,px⟩:=bR px;obtain⟨tk,rfl,htk⟩:=ub e3;nofun;exists o,(C 0),dx,_,_,rfl,ho,Z.Qn,Z.Qt,iq _ _ _ _;exists p,(C 7),dp,_,_,rfl,f1,Z.Qm,Z.Qp,jX _ _ _ _;refine bK (ao.of h3) (v:=.ref T) (ml wf.p0 (by rw[hx,hT])) ?_;nofun;refine aP (aB.of hT2) (v:=.ref tk) (bi (j:=3) rfl) ?_;nofun;left;nofun;exists p,(C 7),dp,_,_,rfl,f1,Z.Qm,Z.Qs,iY _ _ _ _;refine aP (aB.of htk) (v:=.int t0) db ?_;nofun;refine nP f2 (j:=t0.toNat) (vN b0.1 (by rw[aT];omega)) ?_;rw[wL];have A1:=A'.setH (xs:=g.Qi.set t0.toNat l0) hst;obtain⟨⟨dp1,g1'⟩,g2',g3',_⟩:=A1.fr;have tk1:=(kM (o:=.lst ((g.Qi.set t0.toNat l0).map V.int)) f2) _ _ htk;have m1:a_ (aJ r ia sa ((p,ha,aa)::Qj)) H (aJ r ia sa ((p,ha,aa)::Qj)) (upd H ha (.lst ((g.Qi.set t0.toNat l0).map V.int))):=a_.upd vf;generalize upd H ha (.lst ((g.Qi.set t0.toNat l0).map V.int))=H1 at*;nofun;left;nofun;exists p,(C 7),dp1,_,_,rfl,g1',Z.Qm,Z.Qs,iY _ _ _ _;refine aP (aB.of tk1) (v:=.int t1) (bi (j:=1) rfl) ?_;nofun;refine nP g2' (j:=t1.toNat) (vN b1.1 (by rw[aT,ON];omega)) ?_;rw[wL];have A2:=A1.setH (xs:=(g.Qi.set t0.toNat l0).set t1.toNat l1) rfl;obtain⟨⟨dp2,k1⟩,k2,k3,_⟩:=A2.fr;have m2:a_ (aJ r ia sa ((p,ha,aa)::Qj)) H1 (aJ r ia sa ((p,ha,aa)::Qj)) (upd H1 ha (.lst (((g.Qi.set t0.toNat l0).set t1.toNat l1).map V.int))):=a_.upd vf;generalize upd H1 ha (.lst (((g.Qi.set t0.toNat l0).set t1.toNat l1).map V.int))=H2 at*;nofun;exists p,(C 7),dp2,_,_,rfl,k1,Z.Qm,Z.Qp,jX _ _ _ _;refine⟨p,(C 7),dp2,_,rfl,k1,Z.Qm,Z.Qp,by show 4<1000;decide,?_⟩;rw[BX];have A3:=A2.setP (q:=g.p+1) rfl k1;refine q _ (m1.trans (m2.trans (a_.upd Bu))) ?_;unfold gW wu;rw[hd];exact A3
inductive Al (K:Fg)(C:Nat->Q2)(vs:Ry)(H:Hp)(Q:VK)(E:XK):Prop|mk (r ka ia sa:Q2) (ks:Rv) (cr:Int->Cr) (Qj:List Fa) (s:Rs) (Qq:Rz) (f:Fm) (st:List Fm):vs=[.ref r]->aA (C 8) (C 7) (C 0) H r ka ia sa ks cr Qj s Qq->s.st=f::st->s.en=none->Wf ks cr (f::st)->(∀ H' fas',a_ (aJ r ia sa Qj) H (aJ r ia sa fas') H'->aA (C 8) (C 7) (C 0) H' r ka ia sa ks cr fas' (o5 cr s f st) Qq->Q .non H')->Al K C vs H Q E
variable (Q76:bF bH P w K mg b8 (C 8) "meets" ["self","word","lines","numbers"] 4 (Ai K C))(Q5c:bF bH P w K mg b8 (C 7) "numbers" ["self"] 1 (Az K C))
include B Z Q74 Q76 Q5c in
theorem Md (G_Run_take:bF bH P w K mg b8 (C 8) "take" ["self","left_0","left_1"] 2 (Ak K C))(F:aN K "leave" "Run.leave" x_ f fd)(M:bq K (C 8) "leave" f):bF bH P w K mg b8 (C 8) "leave" ["self"] 5 (Al K C):=by
 refine d5 F M EO λ_ _ _ _ H vs Q E hr h=>?_;obtain⟨r,ka,ia,sa,ks,cr,Qj,s',Qq,f,st,rfl,A',hst,hen,wfs,q⟩:=h;refine⟨_,(av (js 1 EO.nd (jx K (jf K 0) (dG dL ah)))
   (av (bb (lE (gj (cN Q76 Z.Qk hr bZ (pv 0) (cM bJ (dD (lm K (cN Q74 Z.Qk hr bZ (pv 0) (jn 1 ag)) rfl) (bv (io Q5c Z.Qm hr bZ (pv 1)) ag)))))) (aw C6) bp)
   (av (dA (B7 PM PySem.F.slot_list_pop PySem.F.type_list_pop B6 (jf K 0)))
   (aw (bb (vA K (jf K 0)) (aw (dA (cN G_Run_take Z.Qk hr bZ (pv 0) (bc (jx K (jf K 1) ah) (bc (jx K (jf K 1) ah) ag))))) (aw (d0 (pv 0) (b_ (cM bJ (bc (jx K (jf K 1) ah) (bc (jx K (jf K 1) ah) ag)))) rfl))))))),?_⟩
 have wf:=wfs.1 f Oi;have rt:=A'.kn.rt f.n wf.m;obtain⟨dr,ev,hr',_⟩:=A'.ins;have fr:=A'.fr;rw[hst]at fr;cases Qj with
 |nil=>exact fr.elim|cons t Qj=>obtain⟨p,ha,aa⟩:=t;obtain⟨⟨dp,f1⟩,f2,f3,f4⟩:=fr;nofun;left;nofun;exists r,(C 8),dr,_,_,rfl,hr',Z.Qk,Z.Qr,hV;refine bK (ao.of A'.sta) (v:=.ref p) ky ?_;nofun;left;nofun;exists r,dr,_,rfl,hr',dm;exists r,dr,_,rfl,hr',dm;refine⟨r,ka,ia,sa,ks,cr,(p,ha,aa)::Qj,s',Qq,p,dp,ha,aa,f,rfl,A',f1,wf.m,λo g hC=>?_⟩;obtain⟨dx,y1,y2,b3,b4,Qy,QI,ho,_,hL,_⟩:=hC.out (K:=K) rt.nine.d9;nofun;exists o,(C 0),dx,_,_,rfl,ho,Z.Qn,Z.QC,kI _ _ _ _;exists p,dp,_,rfl,f1,ni;refine⟨p,dp,ha,aa,f,rfl,f1,f2,f3,wf.h4,wf.a2,λna H1 s1 hna=>?_⟩;nofun;refine⟨r,ka,ia,sa,ks,cr,(p,ha,aa)::Qj,s',Qq,"leaves",y2,na,_,cA f,f,st,rfl,A'.same s1,hst,hen,hL.same s1,ao.of hna,oz wf,rt.sm.2.1,λH2 o2 A2=>?_⟩;have m2:a_ (aJ r ia sa ((p,ha,aa)::Qj)) H (aJ r ia sa ((p,ha,aa)::Qj)) H2:=(a_.same s1).trans (a_.offR o2 A2);unfold o5 at q;cases hb:cL (cr f.n).P7 (cA f)with
 |some i=>rw[hb]at q A2;dsimp only[RT];nofun;exact q H2 _ m2 A2|none=>
 rw[hb]at q A2;have A2:aA (C 8) (C 7) (C 0) H2 r ka ia sa ks cr ((p,ha,aa)::Qj) s' Qq:=by rw[<-Rs.quiet hen];exact A2
 dsimp only[RT];nofun;obtain⟨dr2,j_,hr2,_⟩:=A2.ins;nofun;left;nofun;exists r,(C 8),dr2,_,_,rfl,hr2,Z.Qk,Z.Qr,hV;exists lS A2.sta;refine Bw A2.sta GV ?_;rw[GW];have A3:=A2.pop hst;have fr2:=A2.fr;rw[hst]at fr2;obtain⟨⟨dp2,k1⟩,k2,k3,_⟩:=fr2;have ns:sa≠p/\sa≠ha:=by have:=A2.ndr.2.2.2.2.2.1;rw[fP]at this;simp only[Oe,Po]at this;exact⟨this.1,this.2.1⟩
 have k1:(upd H2 sa (.lst (Qj.reverse.map λt=>V.ref t.1))) p=some (.ins (C 7) dp2 (dZ f.n f.p ha aa)):=by rw[aC ns.1.symm];exact k1
 have k2:(upd H2 sa (.lst (Qj.reverse.map λt=>V.ref t.1))) ha=some (.lst (f.Qi.map V.int)):=by rw[aC ns.2.symm];exact k2
 have m3:a_ (aJ r ia sa ((p,ha,aa)::Qj)) H (aJ r ia sa Qj) (upd H2 sa (.lst (Qj.reverse.map λt=>V.ref t.1))):=m2.trans ((a_.upd ve).trans (a_.less IM));generalize upd H2 sa (.lst (Qj.reverse.map λt=>V.ref t.1))=H3 at*;obtain⟨dr3,ev3,hr3,_⟩:=A3.ins;have e4:=wf.h4;nofun;nomatch r,(C 8),dr3,_,_,rfl,hr3,Z.Qk,Z.Qr,hV;refine vL (ao.of A3.sta) ?_;cases st with
 |nil=>cases Qj with
  |cons t Qj=>exact A3.fr.elim|nil=>rw[show(!(([]:List Fa).reverse.map λt=>V.ref t.1).isEmpty)=false from rfl];nofun;exists p,(C 7),dp2,_,_,rfl,k1,Z.Qm,Z.Qs,iY _ _ _ _;refine bK (ao.of k2) (oq (k:=0) (by decide) (by omega)) ?_;nofun;exists p,(C 7),dp2,_,_,rfl,k1,Z.Qm,Z.Qs,iY _ _ _ _;refine bK (ao.of k2) (oq (k:=1) (by decide) (by omega)) ?_;nofun;refine⟨(by right),λT hT=>?_⟩;have t4:=ax hT (.tup (nj f));nofun;refine⟨r,(C 8),dr3,_,rfl,t4 _ _ hr3,Z.Qk,Z.Qu,by show 5<1000;decide,?_⟩;rw[mG];exact q _ [] (m3.trans ((a_.same t4).trans (a_.upd nJ))) ((A3.same t4).setR (k':=s'.k) (en':=some (nj f)) (t4 _ _ hr3) ⟨T,rfl,aq⟩)
 |cons g st=>cases Qj with
  |nil=>exact A3.fr.elim|cons t Qj=>
  have et:(!((t::Qj).reverse.map λt=>V.ref t.1).isEmpty)=true:=by simp
  rw[et];nofun;exists r,dr3,_,rfl,hr3,dm;exists p,(C 7),dp2,_,_,rfl,k1,Z.Qm,Z.Qs,iY _ _ _ _;refine bK (ao.of k2) (oq (k:=0) (by decide) (by omega)) ?_;nofun;exists p,(C 7),dp2,_,_,rfl,k1,Z.Qm,Z.Qs,iY _ _ _ _;refine bK (ao.of k2) (oq (k:=1) (by decide) (by omega)) ?_;nofun;refine⟨r,ka,ia,sa,ks,cr,t::Qj,_,Qq,g,st,_,_,rfl,A3,rfl,wfs.1 g (by simp),wfs.2 g (by simp),λH4 m4 A4=>?_⟩;nofun;exact q H4 _ (m3.trans m4) A4
inductive Am (K:Fg)(C:Nat->Q2)(vs:Ry)(H:Hp)(Q:VK)(E:XK):Prop|mk (r ka ia sa:Q2) (ks:Rv) (cr:Int->Cr) (Qj:List Fa) (s:Rs) (Qq:Rz) (f:Fm) (st:List Fm):vs=[.ref r]->aA (C 8) (C 7) (C 0) H r ka ia sa ks cr Qj s Qq->s.st=f::st->s.en=none->iP ks cr f->f.p<((cr f.n).P9.length:Int)->(cr f.n).Rt->(∀ H',aX [r] H H'->aA (C 8) (C 7) (C 0) H' r ka ia sa ks cr Qj {s with en:=iK cr f} Qq->Q .non H')->Am K C vs H Q E
include B Z Q74 Q76 Q5c in
theorem Nv (F:aN K "meet_notes" "Run.meet_notes" y8 f fd)(M:bq K (C 8) "meet_notes" f):bF bH P w K mg b8 (C 8) "meet_notes" ["self"] 5 (Am K C):=by
 refine d5 F M Fp λ_ _ _ _ H vs Q E hr h=>?_;obtain⟨r,ka,ia,sa,ks,cr,Qj,s',Qq,f,st,rfl,A',hst,hen,wf,hp,rt,q⟩:=h;refine⟨_,(av (js 1 Fp.nd (jx K (jf K 0) (dG dL ah)))
   (aw (dA (cN Q76 Z.Qk hr bZ (pv 0) (cM bJ (bc (jx K (lm K (cN Q74 Z.Qk hr bZ (pv 0) (jn 1 ag)) rfl) (jf K 1)) (bv (io Q5c Z.Qm hr bZ (pv 1)) ag))))))),?_⟩
 obtain⟨dr,ev,hr',_⟩:=A'.ins;have fr:=A'.fr;rw[hst]at fr;cases Qj with
 |nil=>exact fr.elim|cons t Qj=>
 obtain⟨p,ha,aa⟩:=t;obtain⟨⟨dp,f1⟩,f2,f3,_⟩:=fr;left;nofun;exists r,(C 8),dr,_,_,rfl,hr',Z.Qk,Z.Qr,hV;refine bK (ao.of A'.sta) (v:=.ref p) ky ?_;nofun;exists r,dr,_,rfl,hr',dm;exists r,dr,_,rfl,hr',dm;refine⟨r,ka,ia,sa,ks,cr,(p,ha,aa)::Qj,s',Qq,p,dp,ha,aa,f,rfl,A',f1,wf.m,λo g hC=>?_⟩;obtain⟨dx,y1,y2,b3,b4,Qy,QI,ho,_,_,h3,hD,h4,hN⟩:=hC.out (K:=K) rt.nine.d9;have hp0:=wf.p0;have ln:f.p.toNat<(cr f.n).P_.length:=by rw[rt.parts.2.2.2.1];omega
 have ln':f.p.toNat<QI.length:=by rw[<-hN.1];exact ln
 obtain⟨la,hx,hL⟩:=hN.2 f.p.toNat _ _ (Om ln) (Om ln');nofun;exists o,(C 0),dx,_,_,rfl,ho,Z.Qn,Z.QD,lL _ _ _ _;exists p,(C 7),dp,_,_,rfl,f1,Z.Qm,Z.Qp,jX _ _ _ _;refine bK (ao.of h4) (v:=.ref la) (ml hp0 (by rw[Om ln',hx])) ?_;nofun;exists p,dp,_,rfl,f1,ni;refine⟨p,dp,ha,aa,f,rfl,f1,f2,f3,wf.h4,wf.a2,λna H1 s1 hna=>?_⟩;refine⟨r,ka,ia,sa,ks,cr,(p,ha,aa)::Qj,s',Qq,"notes",la,na,_,cA f,f,st,rfl,A'.same s1,hst,hen,hL.same s1,ao.of hna,oz wf,rt.sm.2.2 _ (OO ln),λH2 o2 A2=>?_⟩;refine q H2 (s1.offA.trans o2) ?_;unfold iK;rw[show(cr f.n).P_.getD f.p.toNat []=(cr f.n).P_[f.p.toNat]by rw[OD,Om ln];rfl];exact A2
inductive Ao (K:Fg)(C:Nat->Q2)(vs:Ry)(H:Hp)(Q:VK)(E:XK):Prop|mk (r ka ia sa:Q2) (ks:Rv) (cr:Int->Cr) (Qj:List Fa) (s:Rs) (Qq:Rz) (f:Fm) (st:List Fm) (j:Int):vs=[.ref r,.int j]->aA (C 8) (C 7) (C 0) H r ka ia sa ks cr Qj s Qq->s.st=f::st->s.en=none->Wf ks cr ({f with p:=j}::st)->(∀ H' fas',a_ (aJ r ia sa Qj) H (aJ r ia sa fas') H'->aA (C 8) (C 7) (C 0) H' r ka ia sa ks cr fas' (du cr s {f with p:=j} st) Qq->Q .non H')->Ao K C vs H Q E
include B Z in
theorem ML (Q6d:bF bH P w K mg b8 (C 8) "is_behind_last_deed" ["self"] 2 (An K C))(Q71:bF bH P w K mg b8 (C 8) "leave" ["self"] 5 (Al K C))(Q6f:bF bH P w K mg b8 (C 8) "meet_notes" ["self"] 5 (Am K C))(F:aN K "come_to" "Run.come_to" yh f fd)(M:bq K (C 8) "come_to" f):bF bH P w K mg b8 (C 8) "come_to" ["self","place"] 6 (Ao K C):=by
 refine d5 F M Fi λ_ _ _ _ H vs Q E hr h=>?_;obtain⟨r,ka,ia,sa,ks,cr,Qj,s',Qq,f,st,j,rfl,A',hst,hen,wfs,q⟩:=h;refine⟨_,(av (js 2 Fi.nd (jx K (jf K 0) (dG dL ah)))
   (av (d0 (pv 2) (pv 1) rfl)
   (av (tW RN (PW.pt (vT (jc lD (jf K 0) gk) (wI (gj (io Q6d Z.Qk hr bZ (pv 0)))))) (aw (dA (io Q71 Z.Qk hr bZ (pv 0)))))
   (aw (bb (jc lD (jf K 0) gk) (aw (dA (io Q6f Z.Qk hr bZ (pv 0)))) bp))))),?_⟩
 obtain⟨dr,ev,hr',_⟩:=A'.ins;have fr:=A'.fr;rw[hst]at fr;cases Qj with
 |nil=>exact fr.elim|cons t Qj=>
 obtain⟨p,ha,aa⟩:=t;obtain⟨⟨dp,f1⟩,f2,f3,f4⟩:=fr;nofun;left;nofun;exists r,(C 8),dr,_,_,rfl,hr',Z.Qk,Z.Qr,hV;refine bK (ao.of A'.sta) (v:=.ref p) ky ?_;nofun;left;nofun;refine⟨p,(C 7),dp,_,rfl,f1,Z.Qm,Z.Qp,by show 4<1000;decide,?_⟩;rw[BX];have A1:=A'.setP (q:=j) hst f1;have m1:a_ (aJ r ia sa ((p,ha,aa)::Qj)) H (aJ r ia sa ((p,ha,aa)::Qj)) (upd H p (.ins (C 7) dp (dZ f.n j ha aa))):=a_.upd Bu;generalize upd H p (.ins (C 7) dp (dZ f.n j ha aa))=H1 at*;nofun;with_reducible refine jH (λσ H2=>σ=[some (.ref r),some (.int j),some (.ref p)]/\∃ fas2 s2,iG ks cr s' {f with p:=j} st s2/\a_ (aJ r ia sa ((p,ha,aa)::Qj)) H (aJ r ia sa fas2) H2/\aA (C 8) (C 7) (C 0) H2 r ka ia sa ks cr fas2 s2 Qq/\(s2.en=none->∃ g r,s2.st=g::r/\Wf ks cr (g::r)/\¬ g.p=((cr g.n).P9.length:Int))) (λNX tail=>?_) ?_
 ·nomatch λm σ H2=>σ=[some (.ref r),some (.int j),some (.ref p)]/\∃ fas2 s2,m=iy s2/\iG ks cr s' {f with p:=j} st s2/\a_ (aJ r ia sa ((p,ha,aa)::Qj)) H (aJ r ia sa fas2) H2/\aA (C 8) (C 7) (C 0) H2 r ka ia sa ks cr fas2 s2 Qq,⟨_,rfl,_,({s' with st:={f with p:=j}::st}:Rs),rfl,⟨rfl,rfl,.inl ⟨hen,_,_,rfl,wfs,rfl⟩⟩,m1,A1⟩;rintro m σ H2 ⟨rfl,fas2,s2,rfl,cm,m2,A2⟩;obtain⟨dr2,j_,hr2,en2⟩:=A2.ins;have en2:=en2.none_iff;nofun;exists r,(C 8),dr2,_,_,rfl,hr2,Z.Qk,Z.Qu,pQ;nomatch rfl;rw[en2];nofun;cases he:s2.en with
  |some x=>dsimp only[RT];nofun;exact tail _ _ ⟨rfl,_,_,cm,m2,A2,λz=>by rw[he]at z;cases z⟩|none=>
  obtain⟨g,r2,hs2,w2⟩:=cm.top he;dsimp only[RT];nofun;exists r,dr2,_,rfl,hr2,dm;nomatch r,ka,ia,sa,ks,cr,fas2,s2,Qq,g,r2,rfl,A2,hs2,w2.1 g Oi,A2.kn.rt g.n (w2.1 g Oi).m;by_cases hp:g.p=((cr g.n).P9.length:Int)
  ·rw[Og hp];nofun;exists λσ H3=>σ=[some (.ref r),some (.int j),some (.ref p)]/\∃ fas3 s3,iy s3<iy s2/\iG ks cr s' {f with p:=j} st s3/\a_ (aJ r ia sa ((p,ha,aa)::Qj)) H (aJ r ia sa fas3) H3/\aA (C 8) (C 7) (C 0) H3 r ka ia sa ks cr fas3 s3 Qq,λσ' H' ⟨e,fas3,s3,lt,z⟩=>⟨_,lt,e,fas3,s3,rfl,z⟩;exists r,dr2,_,rfl,hr2,dm;refine⟨r,ka,ia,sa,ks,cr,fas2,s2,Qq,g,r2,rfl,A2,hs2,he,w2,λH3 fas3 m3 A3=>?_⟩;nofun;obtain⟨c3,l3⟩:=cm.leave he hs2 hp;exact⟨rfl,fas3,_,l3,c3,m2.trans m3,A3⟩
  ·rw[Oq hp];nofun;exact tail _ _ ⟨rfl,_,_,cm,m2,A2,λ_=>⟨g,r2,hs2,w2,hp⟩⟩
 ·rintro σ H2 ⟨rfl,fas2,s2,cm,m2,A2,on⟩;obtain⟨dr2,j_,hr2,en2⟩:=A2.ins;have en2:=en2.none_iff;nofun;exists r,(C 8),dr2,_,_,rfl,hr2,Z.Qk,Z.Qu,pQ;nomatch rfl;rw[en2];nofun;cases he:s2.en with
  |some x=>dsimp only[RT];nofun;refine q H2 fas2 m2 ?_;rw[<-cm.ended (by rw[he];intro z;cases z)];exact A2|none=>obtain⟨g,r2,hs2,w2,hp⟩:=on he;dsimp only[RT];nofun;exists r,dr2,_,rfl,hr2,dm;have wg:=w2.1 g Oi;refine⟨r,ka,ia,sa,ks,cr,fas2,s2,Qq,g,r2,rfl,A2,hs2,he,wg,by have:=wg.pn;omega,A2.kn.rt g.n wg.m,λH3 o3 A3=>?_⟩;nofun;refine q H3 fas2 (m2.trans (a_.offR o3 A3)) ?_;rw[<-cm.stay he hs2 hp];exact A3
inductive Ap (K:Fg)(C:Nat->Q2)(vs:Ry)(H:Hp)(Q:VK)(E:XK):Prop|mk (r ka ia sa:Q2) (ks:Rv) (cr:Int->Cr) (Qj:List Fa) (s:Rs) (Qq:Rz) (g:Q2) (n a0 a1:Int):vs=[.ref r,.int n,.ref g]->aA (C 8) (C 7) (C 0) H r ka ia sa ks cr Qj s Qq->(ao K H g [.int a0,.int a1]\/aB K H g [.int a0,.int a1])->s.en=none->Wf ks cr (eX n a0 a1::s.st)->s.st.length<20->(∀ H' fas',a_ (aJ r ia sa Qj) H (aJ r ia sa fas') H'->aA (C 8) (C 7) (C 0) H' r ka ia sa ks cr fas' (du cr s (eX n a0 a1) s.st) Qq->Q .non H')->Ap K C vs H Q E
variable (Q6b:bF bH P w K mg b8 (C 8) "come_to" ["self","place"] 6 (Ao K C))
include B Z Q6b in
theorem Mc (M_Frame:kZ P w K mg b8 "Frame" (C 7) ["self","number","asked"] 1 (AA K C))(F:aN K "begin" "Run.begin" ya f fd)(M:bq K (C 8) "begin" f):bF bH P w K mg b8 (C 8) "begin" ["self","number","given"] 7 (Ap K C):=by
 refine d5 F M Mn λ_ _ _ _ H vs Q E hr h=>?_;obtain⟨r,ka,ia,sa,ks,cr,Qj,s',Qq,g,n,a0,a1,rfl,A',hg,hen,wfs,l20,q⟩:=h;refine⟨_,(av (dA (nE PM PySem.F.slot_list_append PySem.F.type_list_append ul (jf K 0) (bv (vo M_Frame hr rfl (jn 1 (jn 2 ag))) ag)))
   (aw (dA (cN Q6b Z.Qk hr bZ (pv 0) (jk ag))))),?_⟩
 obtain⟨dr,ev,hr',_⟩:=A'.ins;have fl:=A'.fr.len;nofun;left;nofun;exists r,(C 8),dr,_,_,rfl,hr',Z.Qk,Z.Qr,hV;exists lS A'.sta;intro y dy hy hdy ndy;have sm:ae H (upd (upd H dy (.own y)) y (.ins (C 7) dy [])):=λb o e=>by rw[aC (cj e hy),aC (cj e hdy)];exact e
 refine⟨y,dy,g,n,a0,a1,rfl,aq,nZ sm.sq hg,λha aa H1 ha0 aa0 nha o1 hp1 hh1 haa1=>⟨rfl,?_⟩⟩;have s1:ae H H1:=λb o e=>o1 b o (λz=>by rw[bn.mp z,hy]at e;cases e) (sm b o e);have ny:y≠ha/\y≠aa:=⟨λz=>(by rw[<-z,aq]at ha0;cases ha0),λz=>(by rw[<-z,aq]at aa0;cases aa0)⟩;have A2:=A'.push (f:=eX n a0 a1) s1 hy (sm.free ha0) (sm.free aa0) ny.1 ny.2 nha A'.kn.has hp1 hh1 haa1;have m2:a_ (aJ r ia sa Qj) H (aJ r ia sa ((y,ha,aa)::Qj)) (upd H1 sa (.lst ((Qj.reverse.map λt=>V.ref t.1)++[.ref y]))):=a_.push s1 hy (sm.free ha0) (sm.free aa0);nofun;refine vp (s1 _ _ A'.sta) (j4 (by rw[aT,List.length_reverse];omega)) ?_;generalize upd H1 sa (.lst ((Qj.reverse.map λt=>V.ref t.1)++[.ref y]))=H2 at*;obtain⟨dr2,j_,hr2,_⟩:=A2.ins;nofun;exists r,dr2,_,rfl,hr2,dm;refine⟨r,ka,ia,sa,ks,cr,(y,ha,aa)::Qj,_,Qq,eX n a0 a1,s'.st,0,rfl,A2,rfl,hen,wfs,λH3 fas3 m3 A3=>?_⟩;nofun;exact q H3 fas3 (m2.trans m3) A3
inductive Ah (K:Fg)(vs:Ry)(H:Hp)(Q:VK)(E:XK):Prop|mk (g:Q2) (a0 a1:Int):vs=[.ref g]->(ao K H g [.int a0,.int a1]\/aB K H g [.int a0,.int a1])->(∀ na H',ae H H'->H' na=some (.lst ((ij a0 a1).map V.int))->Q (.ref na) H')->Ah K vs H Q E
include B Z in
theorem Nk (F:aN K "asked_numbers" "asked_numbers" zf f fd)(m:mg "asked_numbers"=some (.ref f)):Fn P w K mg b8 "asked_numbers" ["asked"] 1 (Ah K):=by refine bQ F Nn m λ_ _ _ _ H vs Q E hr h=>?_;obtain⟨g,a0,a1,rfl,hg,q⟩:=h;exists _,(aw (aF (bu (jk (jk (jk (jk (bc (jx K (pv 0) ah) (bc (jx K (pv 0) ah) (jk (jk ag)))))))))));refine wq hg ?_;nofun;refine wo hg ?_;nofun;exact⟨(by right),λp hp=>q _ _ (ax hp _) aq⟩
inductive Ay (K:Fg)(C:Nat->Q2)(vs:Ry)(H:Hp)(Q:VK)(E:XK):Prop|mk (p dx ha la va g ia0:Q2) (n a0 a1:Int) (ks:Rv) (cr:Int->Cr) (ws:Rv) (fp:Rz) (ins:Rv):vs=[.ref p,.ref ha,.int n,.ref g,.ref ia0]->H p=some (.ins (C 8) dx [])->cc (C 6) (C 0) H ha la va ks cr ws fp->(ao K H g [.int a0,.int a1]\/aB K H g [.int a0,.int a1])->ao K H ia0 (ins.map V.int)->n.natAbs<fE->(n∉ks->∀ H',aX [p] H H'->E (.ref (C 3)) none H')->(n∈ks->cL (cr n).Qg (ij a0 a1)≠none->∀ H',aX [p] H H'->E (.ref (C 5)) none H')->(n∈ks->cL (cr n).Qg (ij a0 a1)=none->∀ H' ka ia sa Qj Qq ns,a_ [p] H (aJ p ia sa Qj) H'->aA (C 8) (C 7) (C 0) H' p ka ia sa ns cr Qj (du cr ⟨[],ins,0,none⟩ (eX n a0 a1) []) Qq->ns.Perm ks->(∀ b∈ka::Qq,H b=none)->Q .non H')->Ay K C vs H Q E
theorem Dz{o:HO}(h:H b=none):aX S H (upd H b o):=(ax h o).offA
variable (Q69:bF bH P w K mg b8 (C 8) "begin" ["self","number","given"] 7 (Ap K C))(Q7a:Fn P w K mg b8 "asked_numbers" ["asked"] 1 (Ah K))
include B Z Q78 Q69 Q7a in
theorem GE (Q45:bF bH P w K mg b8 (C 6) "crafts" ["self"] 5 (AL K C))(F:aN K "__init__" "Run.__init__" yP f fd)(M:Mk K (C 8) f):uV P w K mg b8 "Run" (C 8) ["self","hall","number","given","inputs"] 8 (Ay K C):=by
 refine N6 F M MP Z.Ru λ_ _ _ _ H vs Q E hr h=>?_;obtain⟨p,dx,ha,la,va,g,ia0,n,a0,a1,ks,cr,ws,fp,ins,rfl,hp,hA,hg,hin,hn,q1,q2,q3⟩:=h;refine⟨_,(av (d0 (pv 0) (io Q45 Z.Qx hr bZ (pv 1)) rfl)
   (av (d0 (pv 0) (mI (s_ K) rfl B.list L2.oE (jn 4 ag)) rfl)
   (av (d0 (pv 0) (bu ag) rfl)
   (av (d0 (pv 0) ah rfl)
   (av (d0 (pv 0) gk rfl)
   (av (bb (lF (oG (bS hr) (pv 2) (jf K 0))) (aw (pM Z.QX rfl Z.QW rfl pI (dE (vM (pv 2) (by decide+kernel)) ag))) bp)
   (av (bb (jc wH (jl Q78 hr (dD (lm K (jU (bS hr) (jf K 0) (pv 2) (λ_ _=>rfl)) rfl) (bv (jl Q7a hr (jn 3 ag)) ag))) gk) (aw (pM Z.Ra rfl Z.Ri rfl pI (dE (vM (pv 2) (by decide+kernel)) ag))) bp)
   (aw (dA (cN Q69 Z.Qk hr bZ (pv 0) (jn 2 (jn 3 ag)))))))))))),?_⟩
 obtain⟨dh,hh⟩:=hA.ins;nofun;left;nofun;exists ha,dh,_,rfl,hh,gX;refine⟨ha,la,va,ks,cr,ws,fp,rfl,hA,λca H1 kvs ns F s1 ca0 hca pm so hk f0 fn fd=>?_⟩;nofun;have p1:=s1 _ _ hp;refine⟨p,(C 8),dx,[],rfl,p1,Z.Qk,Z.QH,by show 0<1000;decide,?_⟩;have sq:∀{H H':Hp}{fs:List (Str×V)},H p=some (.ins (C 8) dx fs)->aX [p] H H'->Sq H H':=λ{H H' fs} e o b u eu su=>o b u (λz=>by rw[bn.mp z,e]at eu;cases eu;cases su) eu;have o1:aX [p] H1 (upd H1 p (.ins (C 8) dx (ar "known" (.ref ca) []))):=hX (by simp);have p2:(upd H1 p (.ins (C 8) dx (ar "known" (.ref ca) []))) p=some (.ins (C 8) dx (ar "known" (.ref ca) [])):=aq;generalize upd H1 p (.ins (C 8) dx (ar "known" (.ref ca) []))=H2 at*;nofun;left;nofun;refine tT (.inl ((sq p1 o1).lst (s1.seq hin))) λia ia0'=>?_;have nia:ia≠p:=(cj p2 ia0').symm;nofun;refine⟨p,(C 8),dx,_,rfl,by rw[aC nia.symm];exact p2,Z.Qk,Z.QJ,Ov (ej (n:=1) (by decide)) (by decide),?_⟩;have o3:aX [p] H1 (upd (upd H2 ia (.lst (ins.map V.int))) p (.ins (C 8) dx (ar "inputs_left" (.ref ia) (ar "known" (.ref ca) [])))):=o1.trans ((Dz ia0').trans (hX (by simp)));have p3:(upd (upd H2 ia (.lst (ins.map V.int))) p (.ins (C 8) dx (ar "inputs_left" (.ref ia) (ar "known" (.ref ca) [])))) p=some (.ins (C 8) dx (ar "inputs_left" (.ref ia) (ar "known" (.ref ca) []))):=aq;have i3:(upd (upd H2 ia (.lst (ins.map V.int))) p (.ins (C 8) dx (ar "inputs_left" (.ref ia) (ar "known" (.ref ca) [])))) ia=some (.lst (ins.map V.int)):=by rw[aC nia,aq]
 generalize upd (upd H2 ia (.lst (ins.map V.int))) p (.ins (C 8) dx (ar "inputs_left" (.ref ia) (ar "known" (.ref ca) [])))=H3 at*;nofun;left;nofun;refine⟨(by right),λsa sa0=>?_⟩;have nsa:sa≠p:=(cj p3 sa0).symm;have nis:ia≠sa:=cj i3 sa0;nofun;refine⟨p,(C 8),dx,_,rfl,by rw[aC nsa.symm];exact p3,Z.Qk,Z.Qr,Ov (ej (n:=2) (ej (n:=1) (by decide))) (by decide),?_⟩;nofun;left;nofun;exists p,(C 8),dx,_,rfl,aq,Z.Qk,Z.QL,Ov (ej (n:=3) (ej (n:=2) (ej (n:=1) (by decide)))) (by decide);left;nofun;nomatch p,(C 8),dx,_,rfl,aq,Z.Qk,Z.Qu,Ov (ej (n:=4) (ej (n:=3) (ej (n:=2) (ej (n:=1) (by decide))))) (by decide);rw[GY];generalize hH6:upd (upd (upd (upd H3 sa (.lst [])) p (.ins (C 8) dx (ar "stack" (.ref sa) (ar "inputs_left" (.ref ia) (ar "known" (.ref ca) []))))) p (.ins (C 8) dx (ar "steps_done" (.int 0) (ar "stack" (.ref sa) (ar "inputs_left" (.ref ia) (ar "known" (.ref ca) [])))))) p (.ins (C 8) dx (bP ca ia sa 0 .non))=H6;have o6:aX [p] H1 H6:=by rw[<-hH6];exact o3.trans ((Dz sa0).trans ((hX (by simp)).trans ((hX (by simp)).trans (hX (by simp)))))
 have p6:H6 p=some (.ins (C 8) dx (bP ca ia sa 0 .non)):=by rw[<-hH6,aq]
 have i6:H6 ia=some (.lst (ins.map V.int)):=by rw[<-hH6,aC nia,aC nia,aC nia,aC nis];exact i3
 have s6:H6 sa=some (.lst []):=by rw[<-hH6,aC nsa,aC nsa,aC nsa,aq]
 clear hH6;have ia1:H1 ia=none:=by cases e:H1 ia with
  |none=>rfl|some o=>rw[o1 ia o (by simp[nia]) e]at ia0';cases ia0'
 have sa1:H1 sa=none:=by cases e:H1 sa with
  |none=>rfl|some o=>rw[o3 sa o (by simp[nsa]) e]at sa0;cases sa0
 have nF:∀ m∈ns,∀ b∈F m,b≠p/\∃ o,H1 b=some o:=λm hm b hb=>by obtain⟨v,_,p',_,hC⟩:=hk.2.2 m hm;exact⟨λz=>(by have:=f0 m hm b hb;rw[z,hp]at this;cases this),hC.has b hb⟩
 have tk:ci H1 H6:=λb xs e=>o6 b _ (λz=>by rw[bn.mp z,p1]at e;cases e) e;have kn:bz (C 0) H6 ca ns cr (ns.flatMap F):=⟨⟨kvs,o6 _ _ (by simp[cj hp ca0 |>.symm]) hca,hk.1,hk.2.1,λm hm=>by obtain⟨v,e,p',rfl,hC⟩:=hk.2.2 m hm;exact⟨_,e,p',F m,rfl,hC.frame tk λb hb o ho=>o6 b o (by simp[(nF m hm b hb).1]) ho,λb hb=>Pq.mpr ⟨m,hm,hb⟩⟩⟩,λm hm=>hA.rt m (pm.mem_iff.mp hm),λb hb=>by obtain⟨m,hm,hb⟩:=Pq.mp hb;obtain⟨nb,o,ho⟩:=nF m hm b hb;exact⟨o,o6 b o (by simp[nb]) ho⟩⟩;have A6:aA (C 8) (C 7) (C 0) H6 p ca ia sa ns cr [] ⟨[],ins,0,none⟩ (ns.flatMap F):=by
  refine⟨⟨dx,.non,p6,rfl⟩,kn,i6,s6,trivial,?_,λb hb=>?_⟩
  ·simp only[aJ,cu,List.flatMap_nil,OM,Oe,OB,OV,Po,not_false_eq_true,OX,and_true];exact⟨⟨nia.symm,nsa.symm⟩,nis⟩
  ·intro z;obtain⟨m,hm,z⟩:=Pq.mp z;obtain⟨nb,o,ho⟩:=nF m hm b z;simp only[aJ,cu,List.flatMap_nil,Oe,OB,OV]at hb;rcases hb with rfl|rfl|rfl
   ·exact nb rfl
   ·rw[ia1]at ho;cases ho
   ·rw[sa1]at ho;cases ho
 have o06:aX [p] H H6:=s1.offA.trans o6;have m06:a_ [p] H (aJ p ia sa []) H6:=⟨o06,λb hb=>by
  simp only[aJ,cu,List.flatMap_nil,Oe,OB,OV]at hb;rcases hb with rfl|rfl|rfl
  ·exact .inl (by simp)
  ·exact .inr (s1.free ia1)
  ·exact .inr (s1.free sa1),DF o06 λb hb=>by rw[bn.mp hb];exact⟨_,p6⟩⟩
 nofun;left;nofun;nomatch p,(C 8),dx,_,_,rfl,p6,Z.Qk,Z.QH,pL;by_cases hm:n∈ks
 ·have hm':n∈ns:=pm.mem_iff.mpr hm;obtain⟨kvs',o,g1,e1,e2,e3⟩:=kn.craft hm';refine⟨ca,some (.ref o),rfl,by rw[<-e2];exact bh.k (k:=.inl n) e1,?_⟩;dsimp only[R_];nofun;have rtm:=kn.rt n hm';obtain⟨dc,y1,y2,b3,b4,Qy,QI,ho,hL,_⟩:=e3.out (K:=K) rtm.nine.d9;have hg6:=nZ ((s1.sq).trans (sq p1 o6)) hg;nofun;left;nofun;exists p,(C 8),dx,_,_,rfl,p6,Z.Qk,Z.QH,pL;refine⟨ca,.ref o,rfl,by rw[<-e2];exact bh.k (k:=.inl n) e1,?_⟩;nofun;exists o,(C 0),dc,_,_,rfl,ho,Z.Qn,Z.Qz,jY _ _ _ _;refine⟨g,a0,a1,rfl,hg6,λna H7 s7 hna=>?_⟩;nofun;refine Cs (hL.same s7) (ao.of hna) rfl rtm.sm.1 λH8 s8=>?_;have s68:=s7.trans s8;nofun;cases hb:cL (cr n).Qg (ij a0 a1)with
  |some i=>nomatch rfl;show ∃ k,V.bl (!decide (V.int (i:Int)=V.non))=.bl k/\_;rw[show decide (V.int (i:Int)=V.non)=false from Oq (by intro z;cases z)];nofun;refine⟨hn,λz=>?_⟩;nofun;exact⟨(by right),q2 hm (by rw[hb];intro z;cases z) _ (o06.trans s68.offA)⟩|none=>
   nomatch rfl;show ∃ k,V.bl (!decide (V.non=V.non))=.bl k/\_;rw[tI];nofun;exists p,dx,_,rfl,s68 _ _ p6,dm;refine⟨p,ca,ia,sa,ns,cr,[],_,_,g,n,a0,a1,rfl,A6.same s68,nZ s68.sq hg6,rfl,⟨λk hk=>?_,λk hk=>by cases hk⟩,by show 0<20;decide,λH9 fas9 m9 A9=>?_⟩
   ·rw[bn.mp hk];exact⟨hm',by show(0:Int)<=0;omega,by show(0:Int)<=_;omega,rfl,rfl⟩
   ·nofun;refine q3 hm hb H9 ca ia sa fas9 _ ns (m06.trans ((a_.same s68).trans m9)) A9 pm λb hb=>?_;rcases Oe.mp hb with rfl|hb
    ·exact ca0
    ·obtain⟨m,hm,hb⟩:=Pq.mp hb;exact f0 m hm b hb
 ·obtain⟨kvs',e1,e2⟩:=kn.no (λz=>hm (pm.mem_iff.mp z));refine⟨ca,none,rfl,by rw[<-e2];exact bh.k (k:=.inl n) e1,?_⟩;dsimp only[R_];nofun;refine⟨hn,λz=>?_⟩;nofun;exact⟨(by right),q1 hm _ o06⟩
inductive Au (K:Fg)(C:Nat->Q2)(vs:Ry)(H:Hp)(Q:VK)(E:XK):Prop|mk (r ka ia sa:Q2) (ks:Rv) (cr:Int->Cr) (Qj:List Fa) (s:Rs) (Qq:Rz) (f:Fm) (st:List Fm) (hd x:Int):vs=[.ref r,.int hd,.int x]->aA (C 8) (C 7) (C 0) H r ka ia sa ks cr Qj s Qq->s.st=f::st->s.en=none->(0<=hd/\hd<=3)->Wf ks cr (f::st)->f.p<((cr f.n).P9.length:Int)->(∀ H' fas',a_ (aJ r ia sa Qj) H (aJ r ia sa fas') H'->aA (C 8) (C 7) (C 0) H' r ka ia sa ks cr fas' (e_ cr s f st hd x) Qq->Q .non H')->Au K C vs H Q E
include B Z Q6b in
theorem K7 (F:aN K "put" "Run.put" xq f fd)(M:bq K (C 8) "put" f):bF bH P w K mg b8 (C 8) "put" ["self","hand","number"] 7 (Au K C):=by
 refine d5 F M EC λ_ _ _ _ H vs Q E hr h=>?_;obtain⟨r,ka,ia,sa,ks,cr,Qj,s',Qq,f,st,hd,x,rfl,A',hst,hen,hh,wfs,hp,q⟩:=h;refine⟨_,(av (js 3 EC.nd (jx K (jf K 0) (dG dL ah)))
   (av (nV (pv 2) (pc (jf K 3) (pv 1) pU))
   (aw (dA (cN Q6b Z.Qk hr bZ (pv 0) (bw (jp K (jf K 3) ah) ag)))))),?_⟩
 have wf:=wfs.1 f Oi;have e4:=wf.h4;obtain⟨dr,ev,hr',_⟩:=A'.ins;have fr:=A'.fr;rw[hst]at fr;cases Qj with
 |nil=>exact fr.elim|cons t Qj=>obtain⟨p,ha,aa⟩:=t;obtain⟨⟨dp,f1⟩,f2,f3,f4⟩:=fr;nofun;left;nofun;exists r,(C 8),dr,_,_,rfl,hr',Z.Qk,Z.Qr,hV;refine bK (ao.of A'.sta) (v:=.ref p) ky ?_;nofun;left;nofun;exists p,(C 7),dp,_,_,rfl,f1,Z.Qm,Z.Qs,iY _ _ _ _;refine nP f2 (j:=hd.toNat) (vN hh.1 (by rw[aT];omega)) ?_;rw[wL];have A1:=A'.setH (xs:=f.Qi.set hd.toNat x) hst;obtain⟨⟨dp1,g1'⟩,_⟩:=A1.fr;obtain⟨dr1,rS,hr1,_⟩:=A1.ins;have m1:a_ (aJ r ia sa ((p,ha,aa)::Qj)) H (aJ r ia sa ((p,ha,aa)::Qj)) (upd H ha (.lst ((f.Qi.set hd.toNat x).map V.int))):=a_.upd vf;generalize upd H ha (.lst ((f.Qi.set hd.toNat x).map V.int))=H1 at*;nofun;exists r,dr1,_,rfl,hr1,dm;exists p,(C 7),dp1,_,_,rfl,g1',Z.Qm,Z.Qp,jX _ _ _ _;refine⟨r,ka,ia,sa,ks,cr,(p,ha,aa)::Qj,_,Qq,{f with Qi:=f.Qi.set hd.toNat x},st,f.p+1,rfl,A1,rfl,hen,wfs.top ⟨wf.m,by have:=wf.p0;show 0<=f.p+1;omega,by show f.p+1<=((cr f.n).P9.length:Int);omega,by show(f.Qi.set hd.toNat x).length=4;rw[ON];exact e4,wf.a2⟩,λH2 fas2 m2 A2=>?_⟩;nofun;exact q H2 fas2 (m1.trans m2) A2
inductive As (K:Fg)(C:Nat->Q2)(vs:Ry)(H:Hp)(Q:VK)(E:XK):Prop|mk (r ka ia sa:Q2) (ks:Rv) (cr:Int->Cr) (Qj:List Fa) (s:Rs) (Qq:Rz) (f:Fm) (st:List Fm) (hd lo hi:Int):vs=[.ref r,.int hd,.int lo,.int hi]->aA (C 8) (C 7) (C 0) H r ka ia sa ks cr Qj s Qq->s.st=f::st->s.en=none->(0<=hd/\hd<=3)->Wf ks cr (f::st)->f.p<((cr f.n).P9.length:Int)->(∀ H' fas',a_ (aJ r ia sa Qj) H (aJ r ia sa fas') H'->aA (C 8) (C 7) (C 0) H' r ka ia sa ks cr fas' (cJ cr ks s f st (.draw hd lo hi)) Qq->Q .non H')->As K C vs H Q E
variable (Q64:bF bH P w K mg b8 (C 8) "put" ["self","hand","number"] 7 (Au K C))
include B Z Q64 in
theorem L0 (F:aN K "draw" "Run.draw" xJ f fd)(M:bq K (C 8) "draw" f):bF bH P w K mg b8 (C 8) "draw" ["self","hand","low","high"] 8 (As K C):=by
 refine d5 F M EE λ_ _ _ _ H vs Q E hr h=>?_;obtain⟨r,ka,ia,sa,ks,cr,Qj,s',Qq,f,st,hd,lo,hi,rfl,A',hst,hen,hh,wfs,hp,q⟩:=h;refine⟨_,(av (bb (lE (vA K (jf K 0))) (av (d0 (pv 0) (b_ (cM bJ ag)) rfl)
   (aw C6)) bp)
   (av (js 4 EE.nd (nE PM PySem.F.slot_list_pop PySem.F.type_list_pop JG (jf K 0) (jk ag)))
   (aw (bb (Dx jD jD (pv 2) (pv 4) (pv 3)) (aw (dA (cN Q64 Z.Qk hr bZ (pv 0) (jn 1 (jn 4 ag))))) (aw (d0 (pv 0) (b_ (cM bJ ag)) rfl)))))),?_⟩
 obtain⟨dr,ev,hr',_⟩:=A'.ins;have inp:=A'.inp;unfold cJ at q;nofun;left;nofun;nomatch r,(C 8),dr,_,_,rfl,hr',Z.Qk,Z.QJ,DX;refine vL (ao.of inp) ?_;cases hin:s'.ins with
 |nil=>rw[hin]at q inp;dsimp only at q;rw[show(!(([]:Rv).map V.int).isEmpty)=false from rfl];nofun;left;nofun;refine⟨(by right),λT hT=>?_⟩;have t4:=ax hT (.tup [V.str "dry"]);nofun;refine⟨r,(C 8),dr,_,rfl,t4 _ _ hr',Z.Qk,Z.Qu,by show 5<1000;decide,?_⟩;rw[mG];nofun;have z:=(A'.same t4).setR (k':=s'.k) (en':=some [V.str "dry"]) (t4 _ _ hr') ⟨T,rfl,aq⟩;rw[hin]at z;exact q _ Qj ((a_.same t4).trans (a_.upd nJ)) z|cons x rs=>
 rw[hin]at q inp;dsimp only at q;rw[bX]at inp;rw[show(!((x::rs).map V.int).isEmpty)=true from rfl];nofun;left;nofun;exists r,(C 8),dr,_,_,rfl,hr',Z.Qk,Z.QJ,DX;exists lS inp;refine Gp inp ?_;have A1:=A'.setIn (xs:=rs);have m1:a_ (aJ r ia sa Qj) H (aJ r ia sa Qj) (upd H ia (.lst (rs.map V.int))):=a_.upd BF;generalize upd H ia (.lst (rs.map V.int))=H1 at*;obtain⟨dr1,rS,hr1,_⟩:=A1.ins;have bad:¬ (lo<=x/\x<=hi)->∀ T,H1 T=none->Q .non (upd (upd H1 T (.tup [V.str "stray"])) r (.ins (C 8) dr1 (bP ka ia sa s'.k (.ref T)))):=λnb T hT=>by rw[Oh nb]at q;have t4:=ax hT (.tup [V.str "stray"]);exact q _ Qj (m1.trans ((a_.same t4).trans (a_.upd nJ))) ((A1.same t4).setR (k':=s'.k) (en':=some [V.str "stray"]) (t4 _ _ hr1) ⟨T,rfl,aq⟩)
 nofun;by_cases h1:lo<=x
 ·rw[Og h1];nofun;by_cases h2:x<=hi
  ·rw[Og h2];rw[Ol ⟨h1,h2⟩]at q;nofun;exists r,dr1,_,rfl,hr1,dm;refine⟨r,ka,ia,sa,ks,cr,Qj,_,Qq,f,st,hd,x,rfl,A1,hst,hen,hh,wfs,hp,λH2 fas2 m2 A2=>?_⟩;nofun;exact q H2 fas2 (m1.trans m2) A2
  ·rw[Oq h2];nofun;refine⟨(by right),λT hT=>?_⟩;nofun;refine⟨r,(C 8),dr1,_,rfl,ax hT _ _ _ hr1,Z.Qk,Z.Qu,by show 5<1000;decide,?_⟩;rw[mG];exact bad (λz=>h2 z.2) T hT
 ·rw[Oq h1];nofun;refine⟨(by right),λT hT=>?_⟩;nofun;refine⟨r,(C 8),dr1,_,rfl,ax hT _ _ _ hr1,Z.Qk,Z.Qu,by show 5<1000;decide,?_⟩;rw[mG];exact bad (λz=>h1 z.1) T hT
inductive Ar (K:Fg)(C:Nat->Q2)(vs:Ry)(H:Hp)(Q:VK)(E:XK):Prop|mk (r ka ia sa:Q2) (ks:Rv) (cr:Int->Cr) (Qj:List Fa) (s:Rs) (Qq:Rz) (f:Fm) (st:List Fm) (la:Q2) (l:Rv):vs=[.ref r,.ref la]->aA (C 8) (C 7) (C 0) H r ka ia sa ks cr Qj s Qq->s.st=f::st->s.en=none->H la=some (.lst (l.map V.int))->l.length=9->Sm l->Wf ks cr (f::st)->f.p<((cr f.n).P9.length:Int)->(∀ H' fas',a_ (aJ r ia sa Qj) H (aJ r ia sa fas') H'->aA (C 8) (C 7) (C 0) H' r ka ia sa ks cr fas' (match cL [l] (cA f)with
  |some i=>{s with en:=some (brk "hold" f i)}|none=>du cr s {f with p:=f.p+1} st) Qq->Q .non H')->Ar K C vs H Q E
include B Z Q76 Q5c Q6b in
theorem LZ (F:aN K "hold" "Run.hold" xI f fd)(M:bq K (C 8) "hold" f):bF bH P w K mg b8 (C 8) "hold" ["self","line"] 7 (Ar K C):=by
 refine d5 F M EN λ_ _ _ _ H vs Q E hr h=>?_;obtain⟨r,ka,ia,sa,ks,cr,Qj,s',Qq,f,st,la,l,rfl,A',hst,hen,QF,l9,lsm,wfs,hp,q⟩:=h;refine⟨_,(av (js 2 EN.nd (jx K (jf K 0) (dG dL ah)))
   (aw (bb (gj (cN Q76 Z.Qk hr bZ (pv 0) (cM bJ (dJ (bu (jn 1 ag)) (bv (io Q5c Z.Qm hr bZ (pv 2)) ag))))) (aw (dA (cN Q6b Z.Qk hr bZ (pv 0) (bw (jp K (jf K 2) ah) ag)))) bp))),?_⟩
 have wf:=wfs.1 f Oi;obtain⟨dr,ev,hr',_⟩:=A'.ins;have fr:=A'.fr;rw[hst]at fr;cases Qj with
 |nil=>exact fr.elim|cons t Qj=>
 obtain⟨p,ha,aa⟩:=t;obtain⟨⟨dp,f1⟩,f2,f3,f4⟩:=fr;nofun;left;nofun;exists r,(C 8),dr,_,_,rfl,hr',Z.Qk,Z.Qr,hV;refine bK (ao.of A'.sta) (v:=.ref p) ky ?_;nofun;exists r,dr,_,rfl,hr',dm;refine⟨(by right),λb hb=>?_⟩;have t1:=ax hb (.lst [V.ref la]);have hb1:(upd H b (.lst [V.ref la])) b=some (.lst [V.ref la]):=aq;generalize upd H b (.lst [V.ref la])=H1 at*;nofun;exists p,dp,_,rfl,t1 _ _ f1,ni;refine⟨p,dp,ha,aa,f,rfl,t1 _ _ f1,t1 _ _ f2,t1 _ _ f3,wf.h4,wf.a2,λna H2 s2 hna=>?_⟩;have s02:=t1.trans s2;nofun;refine⟨r,ka,ia,sa,ks,cr,(p,ha,aa)::Qj,s',Qq,"hold",b,na,[l],cA f,f,st,rfl,A'.same s02,hst,hen,⟨_,s2 _ _ hb1,?_⟩,ao.of hna,oz wf,λz hz=>by rw[bn.mp hz];exact⟨l9,lsm⟩,λH3 o3 A3=>?_⟩
 ·show au K H2 [nums l] [.ref la];unfold au;exact⟨_,_,rfl,fO.mpr ⟨la,rfl,ao.of (s02 _ _ QF)⟩,by unfold au;rfl⟩
 have m3:a_ (aJ r ia sa ((p,ha,aa)::Qj)) H (aJ r ia sa ((p,ha,aa)::Qj)) H3:=(a_.same s02).trans (a_.offR o3 A3);cases hb:cL [l] (cA f)with
 |some i=>rw[hb]at q A3;dsimp only[RT];nofun;exact q H3 _ m3 A3|none=>
 rw[hb]at q A3;have A3:aA (C 8) (C 7) (C 0) H3 r ka ia sa ks cr ((p,ha,aa)::Qj) s' Qq:=by rw[<-Rs.quiet hen];exact A3
 dsimp only[RT];nofun;obtain⟨dr3,ev3,hr3,_⟩:=A3.ins;have fr3:=A3.fr;rw[hst]at fr3;obtain⟨⟨dp3,k1⟩,_⟩:=fr3;exists r,dr3,_,rfl,hr3,dm;exists p,(C 7),dp3,_,_,rfl,k1,Z.Qm,Z.Qp,jX _ _ _ _;refine⟨r,ka,ia,sa,ks,cr,(p,ha,aa)::Qj,s',Qq,f,st,f.p+1,rfl,A3,hst,hen,wfs.top ⟨wf.m,by have:=wf.p0;show 0<=f.p+1;omega,by show f.p+1<=((cr f.n).P9.length:Int);omega,wf.h4,wf.a2⟩,λH4 fas4 m4 A4=>?_⟩;nofun;exact q H4 fas4 (m3.trans m4) A4
inductive Aq (K:Fg)(C:Nat->Q2)(vs:Ry)(H:Hp)(Q:VK)(E:XK):Prop|mk (r ka ia sa:Q2) (ks:Rv) (cr:Int->Cr) (Qj:List Fa) (s:Rs) (Qq:Rz) (f:Fm) (st:List Fm) (g:Q2) (m a0 a1:Int):vs=[.ref r,.int m,.ref g]->aA (C 8) (C 7) (C 0) H r ka ia sa ks cr Qj s Qq->s.st=f::st->s.en=none->(ao K H g [.int a0,.int a1]\/aB K H g [.int a0,.int a1])->Wf ks cr (f::st)->nK cr f->st.length<100->(∀ H' fas',a_ (aJ r ia sa Qj) H (aJ r ia sa fas') H'->aA (C 8) (C 7) (C 0) H' r ka ia sa ks cr fas' (vd cr ks s f st m a0 a1) Qq->Q .non H')->Aq K C vs H Q E
include B Z Q76 Q69 Q7a in
theorem LY (F:aN K "call" "Run.call" xH f fd)(M:bq K (C 8) "call" f):bF bH P w K mg b8 (C 8) "call" ["self","number","given"] 8 (Aq K C):=by
 refine d5 F M LM λ_ _ _ _ H vs Q E hr h=>?_;obtain⟨r,ka,ia,sa,ks,cr,Qj,s',Qq,f,st,g,m,a0,a1,rfl,A',hst,hen,hg,wfs,hc,l100,q⟩:=h;nomatch _,(aw (bb (lF (oG (bS hr) (pv 1) (jf K 0))) (aw (d0 (pv 0) (b_ (cM bJ ag)) rfl)) (aw (bb (jc BK (b9 (dw K) rfl B.len L2.boot_len (dD (jf K 0) ag)) (dP rfl B.QT)) (aw (d0 (pv 0) (b_ (cM bJ ag)) rfl)) (aw (bb (gj (cN Q76 Z.Qk hr bZ (pv 0) (cM bJ (dD (lm K (jU (bS hr) (jf K 0) (pv 1) (λ_ _=>rfl)) rfl) (bv (jl Q7a hr (jn 2 ag)) ag))))) (aw (dA (cN Q69 Z.Qk hr bZ (pv 0) (jn 1 (jn 2 ag))))) bp))))));obtain⟨dr,ev,hr',_⟩:=A'.ins;have fl:=A'.fr.len;rw[hst,OC]at fl;unfold vd at q;have sete:∀(x:Ry) T,H T=none->(∀ H' fas',a_ (aJ r ia sa Qj) H (aJ r ia sa fas') H'->aA (C 8) (C 7) (C 0) H' r ka ia sa ks cr fas' {s' with en:=some x} Qq->Q .non H')->Q .non (upd (upd H T (.tup x)) r (.ins (C 8) dr (bP ka ia sa s'.k (.ref T)))):=λx T hT q=>by have t4:=ax hT (.tup x);exact q _ Qj ((a_.same t4).trans (a_.upd nJ)) ((A'.same t4).setR (k':=s'.k) (en':=some x) (t4 _ _ hr') ⟨T,rfl,aq⟩)
 nofun;nomatch r,(C 8),dr,_,_,rfl,hr',Z.Qk,Z.QH,pL;by_cases hm:m∈ks
 ·rw[Oh (λz=>z hm)]at q;obtain⟨kvs,o,g1,e1,e2,e3⟩:=A'.kn.craft hm;refine⟨ka,some (.ref o),rfl,by rw[<-e2];exact bh.k (k:=.inl m) e1,?_⟩;dsimp only[R_];nofun;exists r,(C 8),dr,_,_,rfl,hr',Z.Qk,Z.Qr,hV;refine dF (.inl (ao.of A'.sta)) ?_;nofun;rw[aT,List.length_reverse,<-fl];by_cases h20:20<=(f::st).length
  ·rw[Ol h20]at q;rw[OC]at h20;rw[Og (show(20:Int)<=((st.length+1:Nat):Int)by omega)];nofun;refine⟨(by right),λT hT=>?_⟩;nofun;refine⟨r,(C 8),dr,_,rfl,ax hT _ _ _ hr',Z.Qk,Z.Qu,by show 5<1000;decide,?_⟩;rw[mG];exact sete _ T hT q
  ·rw[Oh h20]at q;rw[OC]at h20;rw[Oq (show ¬ (20:Int)<=((st.length+1:Nat):Int)by omega)];have rtm:=A'.kn.rt m hm;obtain⟨dx,y1,y2,b3,b4,Qy,QI,ho,hL,_⟩:=e3.out (K:=K) rtm.nine.d9;nofun;exists r,dr,_,rfl,hr',dm;exists r,(C 8),dr,_,_,rfl,hr',Z.Qk,Z.QH,pL;refine⟨ka,.ref o,rfl,by rw[<-e2];exact bh.k (k:=.inl m) e1,?_⟩;nofun;exists o,(C 0),dx,_,_,rfl,ho,Z.Qn,Z.Qz,jY _ _ _ _;refine⟨g,a0,a1,rfl,hg,λna H1 s1 hna=>?_⟩;nofun;refine⟨r,ka,ia,sa,ks,cr,Qj,s',Qq,"needs",y1,na,_,ij a0 a1,f,st,rfl,A'.same s1,hst,hen,hL.same s1,ao.of hna,rfl,rtm.sm.1,λH2 o2 A2=>?_⟩;have m2:a_ (aJ r ia sa Qj) H (aJ r ia sa Qj) H2:=(a_.same s1).trans (a_.offR o2 A2);cases hb:cL (cr m).Qg (ij a0 a1)with
   |some i=>rw[hb]at q A2;dsimp only[RT];nofun;exact q H2 _ m2 A2|none=>
    rw[hb]at q A2;have A2:aA (C 8) (C 7) (C 0) H2 r ka ia sa ks cr Qj s' Qq:=by rw[<-Rs.quiet hen];exact A2
    obtain⟨dr2,j_,hr2,_⟩:=A2.ins;dsimp only[RT];nofun;exists r,dr2,_,rfl,hr2,dm;have hg2:ao K H2 g [.int a0,.int a1]\/aB K H2 g [.int a0,.int a1]:=by refine nZ (λb o e so=>?_) hg;refine o2 b o (λz=>?_) (s1 b o e);rw[bn.mp z,hr']at e;cases e;cases so
    refine⟨r,ka,ia,sa,ks,cr,Qj,s',Qq,g,m,a0,a1,rfl,A2,hg2,hen,⟨λk hk=>?_,λk hk=>?_⟩,by rw[hst,OC];omega,λH3 fas3 m3 A3=>?_⟩
    ·rcases Oe.mp hk with rfl|hk
     ·exact⟨hm,by show(0:Int)<=0;omega,by show(0:Int)<=_;omega,rfl,rfl⟩
     ·rw[hst]at hk;exact wfs.1 k hk
    ·rw[List.tail_cons,hst]at hk;rcases Oe.mp hk with rfl|hk
     ·exact hc
     ·exact wfs.2 k hk
    ·nofun;rw[hst]at A3;exact q H3 fas3 (m2.trans m3) A3
 ·rw[Ol hm]at q;obtain⟨kvs,e1,e2⟩:=A'.kn.no hm;refine⟨ka,none,rfl,by rw[<-e2];exact bh.k (k:=.inl m) e1,?_⟩;dsimp only[R_];nofun;refine⟨(by right),λT hT=>?_⟩;nofun;refine⟨r,(C 8),dr,_,rfl,ax hT _ _ _ hr',Z.Qk,Z.Qu,by show 5<1000;decide,?_⟩;rw[mG];exact sete _ T hT q
theorem Dy(h9:l.length=9)(sm:Sm l)(h1:H la=some (.lst (l.map V.int)))(h2:H na=some (.lst (ns.map V.int)))(h3:ns.length=8)(q:∀ H',ae H H'->Q (.int (aU l ns)) H'):xu K [.ref la,.ref na] H Q E:=by cases l with
 |nil=>simp at h9|cons c fs=>refine⟨la,na,c,fs,ns,rfl,ao.of h1,ao.of h2,by simpa using h9,h3,vR sm,λH' s=>?_⟩;rw[<-uq];exact q H' s
theorem Ja(h9:l.length=9)(sm:Sm l)(h1:H la=some (.lst (l.map V.int)))(h2:H na=some (.lst (ns.map V.int)))(h3:ns.length=8)(q:∀ H',ae H H'->Q (.bl (decide (0<=aU l ns))) H'):xt K [.ref la,.ref na] H Q E:=by cases l with
 |nil=>simp at h9|cons c fs=>refine⟨la,na,c,fs,ns,rfl,ao.of h1,ao.of h2,by simpa using h9,h3,vR sm,λH' s=>?_⟩;rw[<-uq];exact q H' s
inductive Av (K:Fg)(C:Nat->Q2)(vs:Ry)(H:Hp)(Q:VK)(E:XK):Prop|mk (r ka ia sa:Q2) (ks:Rv) (cr:Int->Cr) (Qj:List Fa) (s:Rs) (Qq:Rz):vs=[.ref r]->aA (C 8) (C 7) (C 0) H r ka ia sa ks cr Qj s Qq->iB ks cr s->s.en=none->s.st.length<=20->(∀ H' fas',a_ (aJ r ia sa Qj) H (aJ r ia sa fas') H'->aA (C 8) (C 7) (C 0) H' r ka ia sa ks cr fas' (eV cr ks s) Qq->Q .non H')->Av K C vs H Q E
include B Z Q0 Q74 Q1 Q5c Q6b Q64 in
theorem LX (G_Run_draw:bF bH P w K mg b8 (C 8) "draw" ["self","hand","low","high"] 8 (As K C))(G_Run_hold:bF bH P w K mg b8 (C 8) "hold" ["self","line"] 7 (Ar K C))(G_Run_call:bF bH P w K mg b8 (C 8) "call" ["self","number","given"] 8 (Aq K C))(F:aN K "step" "Run.step" xK f fd)(M:bq K (C 8) "step" f):bF bH P w K mg b8 (C 8) "step" ["self"] 9 (Av K C):=by
 refine d5 F M pX λ_ _ _ _ H vs Q E hr h=>?_;obtain⟨r,ka,ia,sa,ks,cr,Qj,s',Qq,rfl,A',hW,hen,l20,q⟩:=h;refine⟨_,(av (d0 (pv 0) (jp K (jf K 0) ah) rfl)
   (av (js 1 pX.nd (jx K (jf K 0) (dG dL ah)))
   (av (js 2 pX.nd (jx K (lm K (cN Q74 Z.Qk hr bZ (pv 0) (jn 1 ag)) rfl) (jf K 1)))
   (av (js 3 pX.nd (jx K (pv 2) ah))
   (aw (bb (jt K hr (pv 3) bJ) (aw (dA (cN Q64 Z.Qk hr bZ (pv 0) (bc (jx K (pv 2) ah) (bv (jl Q0 hr (bc (jx K (pv 2) ah) (bv (io Q5c Z.Qm hr bZ (pv 1)) ag))) ag))))) (aw (bb (jt K hr (pv 3) bJ) (aw (dA (cN Q64 Z.Qk hr bZ (pv 0) (bc (jx K (pv 2) ah) (bw (aK cy (jl Q0 hr (bc (jx K (pv 2) ah) (bv (io Q5c Z.Qm hr bZ (pv 1)) ag))) (jx K (pv 2) ah)) ag))))) (aw (bb (jt K hr (pv 3) bJ) (aw (dA (cN G_Run_draw Z.Qk hr bZ (pv 0) (bc (jx K (pv 2) ah) (bc (jx K (pv 2) ah) (bc (jx K (pv 2) ah) ag)))))) (aw (bb (jt K hr (pv 3) bJ) (aw (dA (cN Q6b Z.Qk hr bZ (pv 0) (qJ (wX (gj (jl Q1 hr (bc (jx K (pv 2) ah) (bv (io Q5c Z.Qm hr bZ (pv 1)) ag)))) (jx K (pv 2) ah) (jp K (jf K 1) ah)) ag)))) (aw (bb (jt K hr (pv 3) bJ) (aw (dA (cN G_Run_hold Z.Qk hr bZ (pv 0) (bc (jx K (pv 2) ah) ag)))) (av (js 4 pX.nd (jx K (pv 2) ah))
   (aw (dA (cN G_Run_call Z.Qk hr bZ (pv 0) (bc (jx K (pv 2) ah) (dJ (bu (bc (jx K (jf K 1) (jx K (pv 4) ah)) (bc (jx K (jf K 1) (jx K (pv 4) ah)) ag))) ag)))))))))))))))))))),?_⟩
 obtain⟨f,st,hst,hp⟩:=hW.on hen;have wfs:=hW.w;rw[hst]at wfs l20;rw[OC]at l20;have wf:=wfs.1 f Oi;have rt:=A'.kn.rt f.n wf.m;obtain⟨dr,ev,hr',hev⟩:=A'.ins;have fr:=A'.fr;rw[hst]at fr;cases Qj with
 |nil=>exact fr.elim|cons t Qj=>
 obtain⟨p,ha,aa⟩:=t;obtain⟨⟨dp,f1⟩,f2,f3,f4⟩:=fr;have hp0:=wf.p0;have hlt:f.p.toNat<(cr f.n).P9.length:=by omega
 have hd:fz (cr f.n) f.p=some (cr f.n).P9[f.p.toNat]:=Om hlt;have hok:=rt.parts.2.2.2.2.2 _ (OO hlt);have h9:=rt.nine.d9 _ (OO hlt);rw[DD hst hd]at q;nofun;left;nofun;exists r,(C 8),dr,_,_,rfl,hr',Z.Qk,Z.QL,IP;refine⟨r,(C 8),dr,_,rfl,hr',Z.Qk,Z.QL,by show 5<1000;decide,?_⟩;rw[IN];have A1:=A'.setR (k':=s'.k+1) (en':=s'.en) hr' hev;have m1:a_ (aJ r ia sa ((p,ha,aa)::Qj)) H (aJ r ia sa ((p,ha,aa)::Qj)) (upd H r (.ins (C 8) dr (bP ka ia sa (s'.k+1) ev))):=a_.upd nJ;generalize upd H r (.ins (C 8) dr (bP ka ia sa (s'.k+1) ev))=H1 at*;have hst1:({s' with k:=s'.k+1,en:=s'.en}:Rs).st=f::st:=hst;have hen1:({s' with k:=s'.k+1,en:=s'.en}:Rs).en=none:=hen;have q:=λH' fas' m A=>q H' fas' (m1.trans m) A;generalize ({s' with k:=s'.k+1,en:=s'.en}:Rs)=s1 at*;clear f1 f2 f3 f4 hr' hev;obtain⟨dr,ev,hr',hev⟩:=A1.ins;have fr:=A1.fr;rw[hst1]at fr;obtain⟨⟨dp,f1⟩,f2,f3,f4⟩:=fr;nofun;left;nofun;exists r,(C 8),dr,_,_,rfl,hr',Z.Qk,Z.Qr,hV;refine bK (ao.of A1.sta) (v:=.ref p) ky ?_;nofun;left;nofun;exists r,dr,_,rfl,hr',dm;refine⟨r,ka,ia,sa,ks,cr,(p,ha,aa)::Qj,s1,Qq,p,dp,ha,aa,f,rfl,A1,f1,wf.m,λo gg hC=>?_⟩;obtain⟨dx,y1,y2,b3,b4,Qy,QI,ho,_,_,h3,hD,_⟩:=hC.out (K:=K) rt.nine.d9;have ld:=hD.1;have hx:=Om (l:=Qy) (i:=f.p.toNat) (by omega);have hdr:=hD.2 _ _ _ hd hx;have hat:=hd;generalize (cr f.n).P9[f.p.toNat]=d at*;generalize Qy[f.p.toNat]=x at*;nofun;exists o,(C 0),dx,_,_,rfl,ho,Z.Qn,Z.Qt,iq _ _ _ _;exists p,(C 7),dp,_,_,rfl,f1,Z.Qm,Z.Qp,jX _ _ _ _;refine bK (ao.of h3) (v:=x) (ml hp0 hx) ?_;cases d with
 |set hh l=>refine fe λG kG=>?_;obtain⟨T,ys,rfl,hT,px⟩:=fQ hdr;obtain⟨x0,ys,rfl,e0,px⟩:=bR px;obtain⟨x1,ys,rfl,e1,px⟩:=bR px;obtain⟨x2,ys,rfl,e2,px⟩:=bR px;cases i7 px;cases gz e0;cases eY e1;obtain⟨la,rfl,QF⟩:=lP e2;refine kG ?_;simp only[bI,b5,cb,Of,Oj]at hok;nofun;left;nofun;refine aP (aB.of hT) (v:=.str "set") db ?_;nofun;rw[Og rfl];nofun;exists r,dr,_,rfl,hr',dm;refine aP (aB.of hT) (v:=.int hh) (bi (j:=1) rfl) ?_;nofun;refine aP (aB.of hT) (v:=.ref la) (bi (j:=2) rfl) ?_;nofun;exists p,dp,_,rfl,f1,ni;refine⟨p,dp,ha,aa,f,rfl,f1,f2,f3,wf.h4,wf.a2,λna H2 s2 hna=>?_⟩;nofun;refine Dy (H:=H2) h9 (lh hok.2) (s2 _ _ QF) hna (oz wf) λH3 s3=>?_;have s23:=s2.trans s3;nofun;refine⟨r,ka,ia,sa,ks,cr,(p,ha,aa)::Qj,s1,Qq,f,st,hh,_,rfl,A1.same s23,hst1,hen1,hok.1,wfs,hp,λH4 fas4 m4 A4=>?_⟩;nofun;exact q H4 fas4 ((a_.same s23).trans m4) A4|part hh l b=>refine fe λG kG=>?_;obtain⟨T,ys,rfl,hT,px⟩:=fQ hdr;obtain⟨x0,ys,rfl,e0,px⟩:=bR px;obtain⟨x1,ys,rfl,e1,px⟩:=bR px;obtain⟨x2,ys,rfl,e2,px⟩:=bR px;obtain⟨x3,ys,rfl,e3,px⟩:=bR px;cases i7 px;cases gz e0;cases eY e1;cases eY e3;obtain⟨la,rfl,QF⟩:=lP e2;simp only[bI,b5,cb,Of,Oj]at hok;obtain⟨hok1,hok2,hok3⟩:=hok;refine kG ?_;nofun;left;nofun;refine aP (aB.of hT) (v:=.str "part") db ?_;nofun;rw[GU];nofun;rw[Og rfl];nofun;exists r,dr,_,rfl,hr',dm;refine aP (aB.of hT) (v:=.int hh) (bi (j:=1) rfl) ?_;nofun;refine aP (aB.of hT) (v:=.ref la) (bi (j:=2) rfl) ?_;nofun;exists p,dp,_,rfl,f1,ni;refine⟨p,dp,ha,aa,f,rfl,f1,f2,f3,wf.h4,wf.a2,λna H2 s2 hna=>?_⟩;nofun;refine Dy (H:=H2) h9 (lh hok2) (s2 _ _ QF) hna (oz wf) λH3 s3=>?_;have s23:=s2.trans s3;nofun;refine aP (aB.of (s23 _ _ hT)) (v:=.int b) (bi (j:=3) rfl) ?_;nofun;refine⟨r,ka,ia,sa,ks,cr,(p,ha,aa)::Qj,s1,Qq,f,st,hh,_,rfl,A1.same s23,hst1,hen1,hok1,wfs,hp,λH4 fas4 m4 A4=>?_⟩;nofun;exact q H4 fas4 ((a_.same s23).trans m4) A4|draw hh lo hi=>refine fe λG kG=>?_;obtain⟨T,ys,rfl,hT,px⟩:=fQ hdr;obtain⟨x0,ys,rfl,e0,px⟩:=bR px;obtain⟨x1,ys,rfl,e1,px⟩:=bR px;obtain⟨x2,ys,rfl,e2,px⟩:=bR px;obtain⟨x3,ys,rfl,e3,px⟩:=bR px;cases i7 px;cases gz e0;cases eY e1;cases eY e2;cases eY e3;refine kG ?_;simp only[bI,b5,cb,Of,Oj]at hok;nofun;left;nofun;refine aP (aB.of hT) (v:=.str "draw") db ?_;nofun;rw[CD.1];nofun;rw[CD.2];nofun;rw[Og rfl];nofun;exists r,dr,_,rfl,hr',dm;refine aP (aB.of hT) (v:=.int hh) (bi (j:=1) rfl) ?_;nofun;refine aP (aB.of hT) (v:=.int lo) (bi (j:=2) rfl) ?_;nofun;refine aP (aB.of hT) (v:=.int hi) (bi (j:=3) rfl) ?_;nofun;refine⟨r,ka,ia,sa,ks,cr,(p,ha,aa)::Qj,s1,Qq,f,st,hh,lo,hi,rfl,A1,hst1,hen1,hok.1,wfs,hp,λH4 fas4 m4 A4=>?_⟩;nofun;exact q H4 fas4 m4 A4|turn l j=>
  refine fe λG kG=>?_;obtain⟨T,ys,rfl,hT,px⟩:=fQ hdr;obtain⟨x0,ys,rfl,e0,px⟩:=bR px;obtain⟨x1,ys,rfl,e1,px⟩:=bR px;obtain⟨x2,ys,rfl,e2,px⟩:=bR px;cases i7 px;cases gz e0;cases eY e2;obtain⟨la,rfl,QF⟩:=lP e1;refine kG ?_;simp only[bI,cb,Of,Oj]at hok;nofun;left;nofun;refine aP (aB.of hT) (v:=.str "turn") db ?_;nofun;rw[wn.1];nofun;rw[wn.2.1];nofun;rw[wn.2.2];nofun;rw[Og rfl];nofun;exists r,dr,_,rfl,hr',dm;refine aP (aB.of hT) (v:=.ref la) (bi (j:=1) rfl) ?_;nofun;exists p,dp,_,rfl,f1,ni;refine⟨p,dp,ha,aa,f,rfl,f1,f2,f3,wf.h4,wf.a2,λna H2 s2 hna=>?_⟩;nofun;refine Ja (H:=H2) h9 (lh hok.1) (s2 _ _ QF) hna (oz wf) λH3 s3=>?_;have s23:=s2.trans s3;have wj:∀ k,0<=k->k<=((cr f.n).P9.length:Int)->Wf ks cr ({f with p:=k}::st):=λk z1 z2=>wfs.top ⟨wf.m,z1,z2,wf.h4,wf.a2⟩;unfold cJ at q;by_cases hb:0<=aU l (cA f)
  ·rw[Og hb];simp only[Ol hb]at q;nofun;refine aP (aB.of (s23 _ _ hT)) (v:=.int j) (bi (j:=2) rfl) ?_;nofun;refine⟨r,ka,ia,sa,ks,cr,(p,ha,aa)::Qj,s1,Qq,f,st,j,rfl,A1.same s23,hst1,hen1,wj j hok.2.1 hok.2.2,λH4 fas4 m4 A4=>?_⟩;nofun;exact q H4 fas4 ((a_.same s23).trans m4) A4
  ·rw[Oq hb];simp only[Oh hb]at q;nofun;exists p,(C 7),dp,_,_,rfl,s23 _ _ f1,Z.Qm,Z.Qp,jX _ _ _ _;refine⟨r,ka,ia,sa,ks,cr,(p,ha,aa)::Qj,s1,Qq,f,st,f.p+1,rfl,A1.same s23,hst1,hen1,wj (f.p+1) (by omega) (by omega),λH4 fas4 m4 A4=>?_⟩;nofun;exact q H4 fas4 ((a_.same s23).trans m4) A4|hold l=>refine fe λG kG=>?_;obtain⟨T,ys,rfl,hT,px⟩:=fQ hdr;obtain⟨x0,ys,rfl,e0,px⟩:=bR px;obtain⟨x1,ys,rfl,e1,px⟩:=bR px;cases i7 px;cases gz e0;obtain⟨la,rfl,QF⟩:=lP e1;refine kG ?_;simp only[bI]at hok;nofun;left;nofun;refine aP (aB.of hT) (v:=.str "hold") db ?_;nofun;rw[tD.1];nofun;rw[tD.2.1];nofun;rw[tD.2.2.1];nofun;rw[tD.2.2.2];nofun;rw[Og rfl];nofun;exists r,dr,_,rfl,hr',dm;refine aP (aB.of hT) (v:=.ref la) (bi (j:=1) rfl) ?_;nofun;refine⟨r,ka,ia,sa,ks,cr,(p,ha,aa)::Qj,s1,Qq,f,st,la,l,rfl,A1,hst1,hen1,QF,h9,lh hok,wfs,hp,λH4 fas4 m4 A4=>?_⟩;nofun;exact q H4 fas4 m4 A4|call m g0 g1 t0 t1=>refine fe λG kG=>?_;obtain⟨T,ys,rfl,hT,px⟩:=fQ hdr;obtain⟨x0,ys,rfl,e0,px⟩:=bR px;obtain⟨x1,ys,rfl,e1,px⟩:=bR px;obtain⟨x2,ys,rfl,e2,px⟩:=bR px;obtain⟨x3,ys,rfl,e3,px⟩:=bR px;cases gz e0;cases eY e1;obtain⟨gv,rfl,hgv⟩:=ub e2;obtain⟨b0,b1,_⟩:=uf hok;refine kG ?_;have e4:=wf.h4;rw[KD]at q;nofun;left;nofun;refine aP (aB.of hT) (v:=.str "call") db ?_;nofun;rw[pz.1];nofun;rw[pz.2.1];nofun;rw[pz.2.2.1];nofun;rw[pz.2.2.2.1];nofun;rw[pz.2.2.2.2];nofun;left;nofun;refine aP (aB.of hT) (v:=.ref gv) (bi (j:=2) rfl) ?_;nofun;exists r,dr,_,rfl,hr',dm;refine aP (aB.of hT) (v:=.int m) (bi (j:=1) rfl) ?_;nofun;exists p,(C 7),dp,_,_,rfl,f1,Z.Qm,Z.Qs,iY _ _ _ _;refine aP (aB.of hgv) (v:=.int g0) db ?_;nofun;refine bK (ao.of f2) (oq b0.1 (by omega)) ?_;nofun;exists p,(C 7),dp,_,_,rfl,f1,Z.Qm,Z.Qs,iY _ _ _ _;refine aP (aB.of hgv) (v:=.int g1) (bi (j:=1) rfl) ?_;nofun;refine bK (ao.of f2) (oq b1.1 (by omega)) ?_;nofun;refine⟨(by right),λg hg=>?_⟩;have t2:=ax hg (.lst [V.int (f.Qi.getD g0.toNat 0),.int (f.Qi.getD g1.toNat 0)]);nofun;refine⟨r,ka,ia,sa,ks,cr,(p,ha,aa)::Qj,s1,Qq,f,st,g,m,_,_,rfl,A1.same t2,hst1,hen1,.inl (ao.of aq),wfs,⟨m,g0,g1,t0,t1,hat⟩,by omega,λH4 fas4 m4 A4=>?_⟩;nofun;exact q H4 fas4 ((a_.same t2).trans m4) A4
inductive Ax (K:Fg)(C:Nat->Q2)(vs:Ry)(H:Hp)(Q:VK)(E:XK):Prop|mk (r ka ia sa:Q2) (ks:Rv) (cr:Int->Cr) (Qj:List Fa) (s:Rs) (Qq:Rz) (fuel:Int):vs=[.ref r,.int fuel]->aA (C 8) (C 7) (C 0) H r ka ia sa ks cr Qj s Qq->iB ks cr s->s.st.length<=20->(∀ v H' fas',a_ (aJ r ia sa Qj) H (aJ r ia sa fas') H'->aA (C 8) (C 7) (C 0) H' r ka ia sa ks cr fas' (de cr ks fuel.toNat s) Qq->oZ H' (de cr ks fuel.toNat s).en v->iB ks cr (de cr ks fuel.toNat s)->(de cr ks fuel.toNat s).st.length<=20->Q v H')->Ax K C vs H Q E
include B Z in
theorem Jl (G_Run_step:bF bH P w K mg b8 (C 8) "step" ["self"] 9 (Av K C))(F:aN K "go" "Run.go" w9 f fd)(M:bq K (C 8) "go" f):bF bH P w K mg b8 (C 8) "go" ["self","fuel"] 10 (Ax K C):=by
 refine d5 F M D5 λ_ _ _ _ H vs Q E hr h=>?_;obtain⟨r,ka,ia,sa,ks,cr,Qj,s',Qq,fuel,rfl,A',hW,l20,q⟩:=h;refine⟨_,(av (tW RN (PW.pt (vT (jc vi (pv 1) ah) (wI (jc lD (jf K 0) gk)))) (av (dA (io G_Run_step Z.Qk hr bZ (pv 0)))
   (aw (js 1 D5.nd (aK jJ (pv 1) ah)))))
   (av (bb (jc lD (jf K 0) gk) (aw (aF (b_ (cM bJ ag)))) bp)
   (aw (aF (jf K 0))))),?_⟩
 with_reducible refine jH (λσ H2=>∃ fu fas2,A5 (σ=[some (.ref r),some (.int fu)]) (iB ks cr (de cr ks fuel.toNat s')) ((de cr ks fuel.toNat s').st.length<=20) (a_ (aJ r ia sa Qj) H (aJ r ia sa fas2) H2) (aA (C 8) (C 7) (C 0) H2 r ka ia sa ks cr fas2 (de cr ks fuel.toNat s') Qq)) (λNX tail=>?_) ?_
 ·nomatch (λm σ H2=>E3 λfu fas2 s2=>A7 (σ=[some (.ref r),some (.int fu)]) (m=fu.toNat) (de cr ks fu.toNat s2=de cr ks fuel.toNat s') (iB ks cr s2) (s2.st.length<=20) (a_ (aJ r ia sa Qj) H (aJ r ia sa fas2) H2) (aA (C 8) (C 7) (C 0) H2 r ka ia sa ks cr fas2 s2 Qq)),⟨_,fuel,Qj,s',rfl,rfl,rfl,hW,l20,a_.refl,A'⟩;rintro m σ H2 ⟨fu,fas2,s2,rfl,rfl,eg,w2,l2,m2,A2⟩;obtain⟨dr2,j_,hr2,en2⟩:=A2.ins;have en2:=en2.none_iff;nofun;by_cases hf:0<fu
  ·rw[Og hf];nofun;exists r,(C 8),dr2,_,_,rfl,hr2,Z.Qk,Z.Qu,pQ;nomatch rfl;rw[en2];nofun;have e1:fu.toNat=(fu - 1).toNat+1:=by omega
   cases he:s2.en with
   |some x=>dsimp only[RT];nofun;rw[CW (by rw[he];intro z;cases z)]at eg;subst eg;exact tail _ _ ⟨fu,fas2,rfl,w2,l2,m2,A2⟩|none=>
    dsimp only[RT];nofun;exists (λσ H3=>∃ fas3 s3,A6 (σ=[some (.ref r),some (.int (fu - 1))]) (de cr ks (fu - 1).toNat s3=de cr ks fuel.toNat s') (iB ks cr s3) (s3.st.length<=20) (a_ (aJ r ia sa Qj) H (aJ r ia sa fas3) H3) (aA (C 8) (C 7) (C 0) H3 r ka ia sa ks cr fas3 s3 Qq)),λσ' H' ⟨fas3,s3,z1,z2,z3,z4,z5,z6⟩=>⟨(fu - 1).toNat,by omega,fu - 1,fas3,s3,z1,rfl,z2,z3,z4,z5,z6⟩;left;nofun;exists r,dr2,_,rfl,hr2,dm;refine⟨r,ka,ia,sa,ks,cr,fas2,s2,Qq,rfl,A2,w2,he,l2,λH3 fas3 m3 A3=>?_⟩;nofun;rw[e1]at eg;have e2:de cr ks ((fu - 1).toNat+1) s2=de cr ks (fu - 1).toNat (eV cr ks s2):=by show(if s2.en=none then _ else _)=_;rw[Ol he]
    rw[e2]at eg;exact⟨fas3,_,rfl,eg,DG A2.kn.rt w2 he,Kw l2,m2.trans m3,A3⟩
  ·rw[Oq hf];nofun;have e0:fu.toNat=0:=by omega
   rw[e0]at eg;have eg:s2=de cr ks fuel.toNat s':=eg;subst eg;exact tail _ _ ⟨fu,fas2,rfl,w2,l2,m2,A2⟩
 ·rintro σ H2 ⟨fu,fas2,rfl,w2,l2,m2,A2⟩;obtain⟨dr2,j_,hr2,en2⟩:=A2.ins;have en2':=en2.none_iff;have q:=λv H' m A t=>q v H' fas2 m A t w2 l2;generalize de cr ks fuel.toNat s'=s2 at*;nofun;left;nofun;exists r,(C 8),dr2,_,_,rfl,hr2,Z.Qk,Z.Qu,pQ;nomatch rfl;rw[en2'];nofun;cases he:s2.en with
  |some x=>dsimp only[RT];rw[he]at en2 q;obtain⟨T,rfl,hT⟩:=en2;nofun;nomatch r,(C 8),dr2,_,_,rfl,hr2,Z.Qk,Z.Qu,pQ;exact q _ H2 m2 A2 ⟨T,rfl,hT⟩|none=>dsimp only[RT];rw[he]at q;nofun;refine⟨(by right),λT hT=>?_⟩;have t3:=ax hT (.tup [V.str "cut"]);exact q _ _ (m2.trans (a_.same t3)) (A2.same t3) ⟨T,rfl,aq⟩
def rQ (f:Fm):D:=.tup [.int f.n,.int f.p]
inductive Aw (K:Fg)(C:Nat->Q2)(vs:Ry)(H:Hp)(Q:VK)(E:XK):Prop|mk (r ka ia sa:Q2) (ks:Rv) (cr:Int->Cr) (Qj:List Fa) (s:Rs) (Qq:Rz):vs=[.ref r]->aA (C 8) (C 7) (C 0) H r ka ia sa ks cr Qj s Qq->s.st.length<=20->(∀ v H',ae H H'->ak H H' (.lst (s.st.reverse.map rQ)) v->Q v H')->Aw K C vs H Q E
theorem gq.at{cF:Q2}:∀{st:List Fm}{Qj:List Fa},gq cF H st Qj->∀(i:Nat) f t,st[i]?=some f->Qj[i]?=some t->∃ dx,H t.1=some (.ins cF dx (dZ f.n f.p t.2.1 t.2.2))|[],[],_,i,f,t,e,_=>by simp at e|f::st,(p,ha,aa)::r,h,0,g,t,e1,e2=>by simp at e1 e2;subst e1;subst e2;exact h.1|f::st,(p,ha,aa)::r,h,i+1,g,t,e1,e2=>gq.at h.2.2.2 i g t (by simpa using e1) (by simpa using e2)|[],_::_,h,_,_,_,_,_=>h.elim|_::_,[],h,_,_,_,_,_=>h.elim
include B Z in
theorem Ms (F:aN K "frames" "Run.frames" yu f fd)(M:bq K (C 8) "frames" f):bF bH P w K mg b8 (C 8) "frames" ["self"] 1 (Aw K C):=by
 refine d5 F M Fb λ_ _ _ _ H vs Q E hr h=>?_;obtain⟨r,ka,ia,sa,ks,cr,Qj,s',Qq,rfl,A',l20,q⟩:=h;nomatch _,(aw (aF (jC (bB.f Fb ["self","frame"] [false,true]) (c_ K (jf K 0)) (λn=>(jg 1 n)) (b_ (dD (jf K 1) (dD (jf K 1) ag))))));obtain⟨dr,ev,hr',_⟩:=A'.ins;have fl:=A'.fr.len;nofun;nomatch r,(C 8),dr,_,_,rfl,hr',Z.Qk,Z.Qr,hV;nomatch sa,rfl,⟨_,ao.of A'.sta⟩;refine cG (dO (ao.of A'.sta)) (s'.st.reverse.map rQ) (by simp[fl]) (br (by simp;omega)) (λj x d H2 R hj hd s2 hx hR=>?_) (λv H2 s2 n2=>?_)
 ·have hj':j<Qj.length:=by simpa using hj
  rw[aM]at hd hx;obtain⟨f,hf,rfl⟩:=bV.mp hd;obtain⟨t,ht,rfl⟩:=bV.mp hx;rw[List.getElem?_reverse (by omega)]at hf;rw[List.getElem?_reverse hj']at ht;rw[fl]at hf;obtain⟨dx,hp⟩:=A'.fr.at _ f t hf ht;have hp:=s2 _ _ hp;nofun;exists t.1,(C 7),dx,_,_,rfl,hp,Z.Qm,Z.QK,xk _ _ _ _;exists t.1,(C 7),dx,_,_,rfl,hp,Z.Qm,Z.Qp,jX _ _ _ _;refine⟨(by right),λT hT=>?_⟩;exact hR _ _ (ax hT _) (ak.tup (aj.cint (aj.cint aj.nil)) OX (λ_ z=>by cases z) aq)
 ·exact q v H2 s2 n2
inductive uN (K:Fg)(vs:Ry)(H:Hp)(Q:VK)(E:XK):Prop|mk (c k m:Int):vs=[.int c,.int k,.int m]->0<m->Q (.int (aR c k m)) H->uN K vs H Q E
theorem eK{c k m:Int}(h:0<m)(q:Q (.int (aR c k m)) H):uN K [.int c,.int k,.int m] H Q E:=⟨c,k,m,rfl,h,q⟩
include B Z in
theorem I_ (F:aN K "_law_mix" "_law_mix" wz f fd)(m:mg "_law_mix"=some (.ref f)):Fn P w K mg b8 "_law_mix" ["cell","k","many"] 1 (uN K):=by refine bQ F IE m λ_ _ _ _ H vs Q E hr h=>?_;obtain⟨c,k,m,rfl,hm,q⟩:=h;nomatch _,(aw (aF (aK cg (aK cy (aK cg (aK h_ (jp K (aK cg (pv 0) ah) ah) (jp K ah (aK h_ ah (pv 1)))) ah) ah) (pv 2))));have h1:=OU c (show(2147483647:Int)≠0 by decide);have h2:=OQ c (show(0:Int)<2147483647 by decide);ac_rfl;exact q
inductive uO (K:Fg)(vs:Ry)(H:Hp)(Q:VK)(E:XK):Prop|mk (a:Q2) (k:Int) (ns:Rv):vs=[.ref a,.int k]->ao K H a (ns.map V.int)->0<=k->Q (.int (cell ns k)) H->uO K vs H Q E
theorem iQ{k:Int}(h:ao K H a (ns.map V.int))(hk:0<=k)(q:Q (.int (cell ns k)) H):uO K [.ref a,.int k] H Q E:=⟨a,k,ns,rfl,h,hk,q⟩
include B Z in
theorem Mb (F:aN K "_law_cell_at" "_law_cell_at" xY f fd)(m:mg "_law_cell_at"=some (.ref f)):Fn P w K mg b8 "_law_cell_at" ["script","k"] 1 (uO K):=by
 refine bQ F Mm m λ_ _ _ _ H vs Q E hr h=>?_;obtain⟨a,k,ns,rfl,hS,hk,q⟩:=h;refine⟨_,(av (bb (jc ko (pv 1) (b9 (dw K) rfl B.len L2.boot_len (jn 0 ag))) (aw (aF (jx K (pv 0) (pv 1)))) bp)
   (aw (aF ah))),?_⟩
 ac_rfl;refine dF (.inl hS) ?_;ac_rfl;rw[aT];unfold cell at q;refine bC (λe=>?_) (λe=>?_)
 ·have e':k<(ns.length:Int):=Ot e;ac_rfl;have hl:k.toNat<ns.length:=by omega
  refine bK hS (v:=.int (ns.getD k.toNat 0)) ?_ q;have z:fg (ns.map V.int) ((k.toNat:Nat):Int)=some (.int (ns.getD k.toNat 0)):=bi (by simp[hl]);rwa [show((k.toNat:Nat):Int)=k by omega]at z
 ·have e':¬ k<(ns.length:Int):=Ou (Ow.mpr e);ac_rfl;have hl:ns.getD k.toNat 0=0:=by simp[List.getD,Sk (show ns.length<=k.toNat by omega)]
  rw[hl]at q;exact q
inductive uM (K:Fg)(vs:Ry)(H:Hp)(Q:VK)(E:XK):Prop|mk (c k:Int):vs=[.int c,.int k]->(∀ H',ae H H'->Q (.int (aE c k)) H')->uM K vs H Q E
theorem ot{c k:Int}(q:∀ H',ae H H'->Q (.int (aE c k)) H'):uM K [.int c,.int k] H Q E:=⟨c,k,rfl,q⟩
variable (Q7e:Fn P w K mg b8 "_law_mix" ["cell","k","many"] 1 (uN K))
include B Z Q7e in
theorem LW (F:aN K "_law_number" "_law_number" xF f fd)(m:mg "_law_number"=some (.ref f)):Fn P w K mg b8 "_law_number" ["cell","k"] 2 (uM K):=by
 refine bQ F EM m λ_ _ _ _ H vs Q E hr h=>?_;obtain⟨c,k,rfl,q⟩:=h;refine⟨_,(av (js 2 EM.nd (jl Q7e hr (jn 0 (jn 1 (jk ag)))))
   (av (bb (jt K hr (pv 2) ah) (aw (aF (aK jJ (aK cg (pv 0) (jp K (aK h_ ah (aK nU ah ah)) ah)) (aK nU ah ah)))) bp)
   (av (bb (jt K hr (pv 2) ah) (aw (aF (jx K (bu (bw (aK nU ah ah) (iE (dG dL (aK nU ah ah)) (jk (iE (dG dL ah) ag))))) (jl Q7e hr (jn 0 (bw (jp K (pv 1) ah) (jk ag))))))) bp)
   (aw (aF (aK jJ (jl Q7e hr (jn 0 (bw (jp K (pv 1) ah) (jk ag)))) ah)))))),?_⟩
 have n1:=gF (c:=c) (k:=k+1) (m:=4) (by decide);have n2:=gu (c:=c) (k:=k+1) (m:=4) (by decide);ac_rfl;refine eK (by decide) ?_;ac_rfl;refine bC (λe=>?_) (λe=>?_)
 ·have e':aR c k 9=0:=Ot e;ac_rfl;have q':=q H (ae.refl H);unfold aE at q';rw[Ol e']at q';exact q'
 ·have e':¬ aR c k 9=0:=Ou (Ow.mpr e);ac_rfl;refine bC (λe2=>?_) (λe2=>?_)
  ·have e2':aR c k 9=1:=Ot e2;ac_rfl;refine⟨by decide,λp hp=>?_⟩;ac_rfl;refine eK (by decide) ?_;have q':=q (upd H p (.lst [.int 1000000000,.int (-1000000000),.int 999999999,.int (-999999999)])) (ax hp _);unfold aE at q';rw[Oh e',Ol e2']at q';refine bK (ao.of aq) ?_ q';have c4:aR c (k+1) 4=0\/aR c (k+1) 4=1\/aR c (k+1) 4=2\/aR c (k+1) 4=3:=by omega
   rcases c4 with z|z|z|z<;>rw[z]<;>rfl
  ·have e2':¬ aR c k 9=1:=Ou (Ow.mpr e2);ac_rfl;refine eK (by decide) ?_;ac_rfl;have q':=q H (ae.refl H);unfold aE at q';rw[Oh e',Oh e2']at q';exact q'
def xN (K:Fg):Sp:=λvs H Q _=>∃ c:Int,vs=[.int c]/\∀ v H',ae H H'->ak H H' (nums (ki c)) v->Q v H'
theorem vB{c:Int}(q:∀ v H',ae H H'->ak H H' (nums (ki c)) v->Q v H'):xN K [.int c] H Q E:=⟨c,rfl,q⟩
variable (Q80:Fn P w K mg b8 "_law_number" ["cell","k"] 2 (uM K))
include B Z Q80 in
theorem Jk (F:aN K "_law_free" "_law_free" wZ f fd)(m:mg "_law_free"=some (.ref f)):Fn P w K mg b8 "_law_free" ["cell"] 3 (xN K):=by
 refine bQ F D3 m λ_ _ _ _ H vs Q E hr h=>?_;obtain⟨c,rfl,q⟩:=h;nomatch _,(aw (aF (jp K (jC (bB.f D3 ["cell","k"] [false,true]) (hU rfl B.range (jk ag)) (λn=>(jg 1 n)) (jl Q80 hr (jn 0 (bw (aK h_ ah (pv 1)) ag)))) (bu (jk (jk ag))))));ac_rfl;refine hJ (by decide) (by decide) ?_;refine cG (n:=7) kO (((RD 7).map λ(k:Nat)=>aE c (5*(0+(k:Int)))).map D.int) (by simp) (by decide) (λi x d H1 R hi hd s1 hx hR=>?_) (λv H1 s1 n1=>?_)
 ·subst hx;rw[OZ]at hd;have hd':=oF hd;subst hd';ac_rfl;refine ot λH2 s2=>?_;exact hR _ _ s2 ak.int
 obtain⟨la,rfl,la0,la1⟩:=ak.iif.mp n1;ac_rfl;refine⟨(by right),λp hp=>?_⟩;have t1:=ax hp (.lst [V.int 0,.int 0]);ac_rfl;refine dW (t1 _ _ la1) aq ((by right)) λp2 hp2=>?_;refine q _ _ (s1.trans (t1.trans (ax hp2 _))) (ak.iif.mpr ⟨p2,rfl,(s1.trans t1).free hp2,?_⟩);rw[aq];unfold ki;rw[OF];rfl
inductive Af (K:Fg)(vs:Ry)(H:Hp)(Q:VK)(E:XK):Prop|mk (c count:Int):vs=[.int c,.int count]->0<=count->(∀ v H',ae H H'->ak H H' (cT (kA c count)) v->Q v H')->Af K vs H Q E
variable (Q84:Fn P w K mg b8 "_law_free" ["cell"] 3 (xN K))
include B Z Q7e Q80 Q84 in
theorem M1 (F:aN K "_law_other_deed" "_law_other_deed" yN f fd)(m:mg "_law_other_deed"=some (.ref f)):Fn P w K mg b8 "_law_other_deed" ["cell","count"] 4 (Af K):=by
 refine bQ F Fe m λ_ _ _ _ H vs Q E hr h=>?_;obtain⟨c,count,rfl,hc,q⟩:=h;refine⟨_,(av (bb (jt K hr (aK cg (pv 0) ah) ah) (aw (aF (b_ (cM bJ (bv (jl Q84 hr (bw (aK cy (pv 0) ah) ag)) (bv (jl Q7e hr (jn 0 (jk (bw (jp K (pv 1) ah) ag)))) ag)))))) bp)
   (av (bb (jt K hr (aK cg (pv 0) ah) ah) (aw (aF (b_ (cM bJ (bw (jp K ah (aK cg (aK cy (pv 0) ah) ah)) (bv (jl Q84 hr (bw (aK cy (pv 0) ah) ag)) ag)))))) bp)
   (av (js 2 Fe.nd (jl Q80 hr (bw (aK cy (pv 0) ah) (jk ag))))
   (aw (aF (b_ (cM bJ (bw (jp K ah (aK cg (aK cy (pv 0) ah) ah)) (jn 2 (bv (b9 (vv rfl) rfl B.max L2.wQ (jn 2 (bv (jl Q80 hr (bw (aK cy (pv 0) ah) (jk ag))) ag))) ag)))))))))),?_⟩
 unfold kA at q;ac_rfl;refine bC (λe=>?_) (λe=>?_)
 ·have e':c%3=0:=Ot e;rw[Ol e']at q;ac_rfl;refine vB λv H1 s1 n1=>?_;obtain⟨la,rfl,la0,la1⟩:=ak.iif.mp n1;ac_rfl;refine eK (by omega) ?_;ac_rfl;refine⟨by show 3<=sizeLine;decide,λt ht=>?_⟩;exact q _ _ (s1.trans (ax ht _)) (IU la0 la1 ht)
 have e0:¬ c%3=0:=Ou (Ow.mpr e);rw[Oh e0]at q;ac_rfl;refine bC (λe=>?_) (λe=>?_)
 ·have e':c%3=1:=Ot e;rw[Ol e']at q;ac_rfl;refine vB λv H1 s1 n1=>?_;obtain⟨la,rfl,la0,la1⟩:=ak.iif.mp n1;ac_rfl;refine⟨by show 3<=sizeLine;decide,λt ht=>?_⟩;exact q _ _ (s1.trans (ax ht _)) (pC la0 la1 ht)
 have e1:¬ c%3=1:=Ou (Ow.mpr e);rw[Oh e1]at q;ac_rfl;refine ot λH1 s1=>?_;ac_rfl;refine ot λH2 s2=>?_;ac_rfl;refine vq ?_;ac_rfl;refine⟨by show 4<=sizeLine;decide,λt ht=>?_⟩;exact q _ _ (s1.trans (s2.trans (ax ht _))) (DI ht)
theorem Cq (c:Int):fg [V.int 0,.int 1,.int (c/48%(1000000000+1))] (c/8%3)=some (.int (cP c)):=by
 have h1:=OU (c/8) (show(3:Int)≠0 by decide);have h2:=OQ (c/8) (show(0:Int)<3 by decide);unfold cP;have c3:c/8%3=0\/c/8%3=1\/c/8%3=2:=by omega
 rcases c3 with z|z|z<;>rw[z]<;>rfl
theorem ly{i:Int}(h0:0<=i)(h:i<(l.length:Int)):fg (l.map V.int) i=some (.int (l.getD i.toNat 0)):=by
 have hj:i.toNat<l.length:=by omega
 have:=bi (xs:=l.map V.int) (j:=i.toNat) (v:=.int l[i.toNat]) (by simp[hj]);rw[show((i.toNat:Nat):Int)=i by omega]at this;rw[this];simp[List.getD,hj]
inductive Ad (K:Fg)(vs:Ry)(H:Hp)(Q:VK)(E:XK):Prop|mk (c count:Int) (na ka:Q2) (P8 Qh:Rv):vs=[.int c,.int count,.ref na,.ref ka]->0<=count->ao K H na (P8.map V.int)->ao K H ka (Qh.map V.int)->P8.length=Qh.length->0<P8.length->(∀ v H',ae H H'->ak H H' (cT (jO c count P8 Qh)) v->Q v H')->Ad K vs H Q E
variable (Q86:Fn P w K mg b8 "_law_other_deed" ["cell","count"] 4 (Af K))
include B Z Q84 Q86 in
theorem Ny (F:aN K "_law_second_deed" "_law_second_deed" yG f fd)(m:mg "_law_second_deed"=some (.ref f)):Fn P w K mg b8 "_law_second_deed" ["cell","count","numbers","kinds"] 5 (Ad K):=by
 refine bQ F uF m λ_ _ _ _ H vs Q E hr h=>?_;obtain⟨c,count,na,ka,P8,Qh,rfl,hc,hN,hK,hl,h0,q⟩:=h;refine⟨_,(av (js 4 uF.nd (jx K (bu (jk (jk (bw (aK cg (aK cy (pv 0) ah) (jp K (aK nU ah ah) ah)) ag)))) (aK cg (aK cy (pv 0) ah) ah)))
   (av (js 5 uF.nd (aK cg (pv 0) ah))
   (av (bb (PW.pt (jF (jt K hr (pv 5) ah) (nW (jt K hr (pv 5) ah)))) (aw (aF (b_ (cM bJ (jk (dJ (bu (jn 4 (jk (jk (jk (jk (jk (jk (jk (jk ag)))))))))) ag)))))) bp)
   (av (bb (jt K hr (pv 5) ah) (aw (aF (b_ (cM bJ (jk (dJ (bu (jn 4 (jk (jk (jk (jk (jk (jk (jk (jk ag)))))))))) (jk ag))))))) bp)
   (av (bb (jt K hr (pv 5) ah) (aw (aF (b_ (cM bJ (dJ (bu (jn 4 (jk (jk (jk (jk (iE (dG dL (aK cg (aK cy (pv 0) ah) ah)) (jk (jk (jk ag)))))))))) ag))))) bp)
   (av (bb (jt K hr (pv 5) ah) (aw (aF (b_ (cM bJ (jk (bv (jl Q84 hr (bw (aK cy (pv 0) ah) ag)) ag)))))) bp)
   (av (bb (jt K hr (pv 5) ah) (av (js 6 uF.nd (aK cg (aK cy (pv 0) ah) (b9 (dw K) rfl B.len L2.boot_len (jn 2 ag))))
   (av (bb (jt K hr (jx K (pv 3) (pv 6)) ah) (aw (aF (b_ (cM bJ (bc (jx K (pv 2) (pv 6)) (iU (b_ (jk (jk ag))) (iU (b_ (bw (jp K ah (aK cg (aK cy (pv 0) ah) ah)) (jk ag))) ag))))))) bp)
   (aw (aF (b_ (cM bJ (bc (jx K (pv 2) (pv 6)) (iU (b_ (jk (bw (aK cg (aK cy (pv 0) ah) ah) ag))) (iU (b_ (bw (aK cg (aK cy (pv 0) ah) ah) (bw (jp K ah (aK cg (aK cy (pv 0) ah) ah)) ag))) ag))))))))) bp)
   (aw (aF (jl Q86 hr (bw (aK cy (pv 0) ah) (jn 1 ag)))))))))))),?_⟩
 unfold jO at q;ac_rfl;refine⟨by show 3<=sizeLine;decide,λp hp=>?_⟩;have s0:=ax hp (.lst [V.int 0,.int 1,.int (c/48%(1000000000+1))]);ac_rfl;refine bK (ao.of aq) (v:=.int (cP c)) (Cq c) ?_;ac_rfl;have first:(c%8=0\/c%8=1)->∀ la t (QF:(upd H p (.lst [V.int 0,.int 1,.int (c/48%(1000000000+1))])) la=none) (ht:(upd (upd H p (.lst [V.int 0,.int 1,.int (c/48%(1000000000+1))])) la (.lst (([cP c,1,0,0,0,0,0,0,0]:Rv).map V.int))) t=none),Q (.ref t) (upd (upd (upd H p (.lst [V.int 0,.int 1,.int (c/48%(1000000000+1))])) la (.lst (([cP c,1,0,0,0,0,0,0,0]:Rv).map V.int))) t (.tup [.str "set",.int 0,.ref la])):=λe' la t QF ht=>by rw[Ol e']at q;exact q _ _ (s0.trans ((ax QF _).trans (ax ht _))) (pC (l:=[cP c,1,0,0,0,0,0,0,0]) (s0.free QF) aq ht)
 refine bC (λe=>?_) (λe=>?_)
 ·ac_rfl;refine⟨by show 9<=sizeLine;decide,λla QF=>?_⟩;ac_rfl;exact⟨by show 3<=sizeLine;decide,λt ht=>first (.inl (Ot e)) la t QF ht⟩
 have e0:¬ c%8=0:=Ou (Ow.mpr e);ac_rfl;refine bC (λe=>?_) (λe=>?_)
 ·ac_rfl;refine⟨by show 9<=sizeLine;decide,λla QF=>?_⟩;ac_rfl;exact⟨by show 3<=sizeLine;decide,λt ht=>first (.inr (Ot e)) la t QF ht⟩
 have e1:¬ c%8=1:=Ou (Ow.mpr e);clear first;rw[Oh (show ¬ (c%8=0\/c%8=1)by omega)]at q;ac_rfl;refine bC (λe=>?_) (λe=>?_)
 ·have e':c%8=2:=Ot e;rw[Ol e']at q;ac_rfl;refine⟨by show 9<=sizeLine;decide,λla QF=>?_⟩;have t1:=ax QF (.lst (([cP c,1,0,0,0,0,0,0,0]:Rv).map V.int));ac_rfl;refine⟨by show 4<=sizeLine;decide,λt ht=>?_⟩;exact q _ _ (s0.trans (t1.trans (ax ht _))) (DJ (l:=[cP c,1,0,0,0,0,0,0,0]) (s0.free QF) aq ht)
 have e2:¬ c%8=2:=Ou (Ow.mpr e);rw[Oh e2]at q;ac_rfl;refine bC (λe=>?_) (λe=>?_)
 ·have e':c%8=3:=Ot e;rw[Ol e']at q;ac_rfl;refine⟨by show 9<=sizeLine;decide,λla QF=>?_⟩;have t1:=ax QF (.lst (([cP c,1,0,0,0,-(c/24%2),0,0,0]:Rv).map V.int));ac_rfl;refine⟨by show 2<=sizeLine;decide,λt ht=>?_⟩;exact q _ _ (s0.trans (t1.trans (ax ht _))) (DH (l:=[cP c,1,0,0,0,-(c/24%2),0,0,0]) (s0.free QF) aq ht)
 have e3:¬ c%8=3:=Ou (Ow.mpr e);rw[Oh e3]at q;ac_rfl;refine bC (λe=>?_) (λe=>?_)
 ·have e':c%8=4:=Ot e;rw[Ol e']at q;ac_rfl;refine vB λv H1 s1 n1=>?_;obtain⟨la,rfl,la0,la1⟩:=ak.iif.mp n1;ac_rfl;refine⟨by show 3<=sizeLine;decide,λt ht=>?_⟩;exact q _ _ (s0.trans (s1.trans (ax ht _))) (pC (s0.free la0) la1 ht)
 have e4:¬ c%8=4:=Ou (Ow.mpr e);rw[Oh e4]at q;ac_rfl;refine bC (λe=>?_) (λe=>?_)
 ·have e':c%8=5:=Ot e;rw[Ol e']at q;ac_rfl;refine dF (.inl (s0.seq hN)) ?_;rw[aT];have hlp:(0:Int)<(P8.length:Int):=by omega
  ac_rfl;have a1:=OU (c/48) (show((P8.length:Nat):Int)≠0 by omega);have a2:=OQ (c/48) hlp;refine bK (s0.seq hK) (ly a1 (by omega)) ?_;ac_rfl;refine bC (λe2=>?_) (λe2=>?_)
  ·have e2':Qh.getD (iO c P8) 0=0:=Ot e2;rw[Ol e2']at q;ac_rfl;refine bK (s0.seq hN) (ly a1 a2) ?_;ac_rfl;refine⟨by show 2<=sizeLine;decide,λg hg=>?_⟩;have t1:=ax hg (.tup [V.int 0,.int 0]);ac_rfl;refine⟨by show 2<=sizeLine;decide,λu hu'=>?_⟩;have t2:=ax hu' (.tup [V.int (2+c/96%2),.int 1]);ac_rfl;refine⟨by show 4<=sizeLine;decide,λt ht=>?_⟩;exact q _ _ (s0.trans (t1.trans (t2.trans (ax ht _)))) (tO (t2 _ _ aq) aq ht)
  ·have e2':¬ Qh.getD (iO c P8) 0=0:=Ou (Ow.mpr e2);rw[Oh e2']at q;ac_rfl;refine bK (s0.seq hN) (ly a1 a2) ?_;ac_rfl;refine⟨by show 2<=sizeLine;decide,λg hg=>?_⟩;have t1:=ax hg (.tup [V.int 0,.int (c/96%4)]);ac_rfl;refine⟨by show 2<=sizeLine;decide,λu hu'=>?_⟩;have t2:=ax hu' (.tup [V.int (c/384%2),.int (2+c/768%2)]);ac_rfl;refine⟨by show 4<=sizeLine;decide,λt ht=>?_⟩;exact q _ _ (s0.trans (t1.trans (t2.trans (ax ht _)))) (tO (t2 _ _ aq) aq ht)
 have e5:¬ c%8=5:=Ou (Ow.mpr e);rw[Oh e5]at q;ac_rfl;exact⟨_,_,rfl,hc,λv H1 s1 n1=>q v H1 (s0.trans s1) (n1.back s0)⟩
inductive Ae (K:Fg)(vs:Ry)(H:Hp)(Q:VK)(E:XK):Prop|mk (c count:Int) (na ka:Q2) (P8 Qh:Rv):vs=[.int c,.int count,.ref na,.ref ka]->0<=count->ao K H na (P8.map V.int)->ao K H ka (Qh.map V.int)->P8.length=Qh.length->0<P8.length->(∀ v H',ae H H'->ak H H' (cT (jL c count P8 Qh)) v->Q v H')->Ae K vs H Q E
include B Z Q86 in
theorem M0 (F:aN K "_law_first_deed" "_law_first_deed" yM f fd)(m:mg "_law_first_deed"=some (.ref f)):Fn P w K mg b8 "_law_first_deed" ["cell","count","numbers","kinds"] 5 (Ae K):=by
 refine bQ F mJ m λ_ _ _ _ H vs Q E hr h=>?_;obtain⟨c,count,na,ka,P8,Qh,rfl,hc,hN,hK,hl,h0,q⟩:=h;refine⟨_,(av (js 4 mJ.nd (jx K (bu (jk (jk (bw (aK cg (aK cy (pv 0) ah) (jp K (aK nU ah ah) ah)) ag)))) (aK cg (aK cy (pv 0) ah) ah)))
   (av (js 5 mJ.nd (aK cg (aK cy (pv 0) ah) ah))
   (av (js 6 mJ.nd (aK cg (pv 0) ah))
   (av (bb (jt K hr (pv 6) ah) (aw (aF (b_ (cM bJ (jn 5 (dJ (bu (jn 4 (jk (jk (jk (jk (jk (jk (jk (jk ag)))))))))) ag)))))) bp)
   (av (bb (jt K hr (pv 6) ah) (aw (aF (b_ (cM bJ (jn 5 (dJ (bu (jn 4 (jn 5 (bw (aK jJ ah (pv 5)) (jk (jk (jk (jk (jk (jk ag)))))))))) ag)))))) bp)
   (av (bb (jt K hr (pv 6) ah) (aw (aF (b_ (cM bJ (jn 5 (dJ (bu (jn 4 (jk (bw (aK cg (aK cy (pv 0) ah) ah) (jk (jk (jk (jk (jk (jk ag)))))))))) (bw (jp K ah (aK cg (aK cy (pv 0) ah) ah)) ag))))))) bp)
   (av (bb (jt K hr (pv 6) ah) (aw (aF (b_ (cM bJ (jn 5 (bw (aK cg (aK cy (pv 0) ah) ah) (bv (b9 (vv rfl) rfl B.max L2.wQ (jk (jn 4 ag))) ag))))))) bp)
   (av (bb (jt K hr (pv 6) ah) (aw (aF (b_ (cM bJ (dJ (bu (jn 4 (jk (jn 5 (jk (jk (jk (jk (jk (jk ag)))))))))) ag))))) bp)
   (av (bb (jt K hr (pv 6) ah) (av (js 7 mJ.nd (aK cg (aK cy (pv 0) ah) (b9 (dw K) rfl B.len L2.boot_len (jn 2 ag))))
   (av (bb (jt K hr (jx K (pv 3) (pv 7)) ah) (av (js 8 mJ.nd (aK cg (aK cy (pv 0) ah) ah))
   (av (js 9 mJ.nd (b_ (jn 8 (bw (aK cg (jp K (jp K (pv 8) ah) (aK cg (aK cy (pv 0) ah) ah)) ah) ag))))
   (aw (aF (b_ (cM bJ (bc (jx K (pv 2) (pv 7)) (iU (b_ (jn 5 (bw (aK cg (aK cy (pv 0) ah) ah) ag))) (jn 9 ag))))))))) bp)
   (aw (aF (b_ (cM bJ (bc (jx K (pv 2) (pv 7)) (iU (b_ (jn 5 (bw (aK cg (aK cy (pv 0) ah) ah) ag))) (iU (b_ (bw (aK cg (aK cy (pv 0) ah) ah) (bw (jp K ah (aK cg (aK cy (pv 0) ah) ah)) ag))) ag))))))))) bp)
   (aw (aF (jl Q86 hr (bw (aK cy (pv 0) ah) (jn 1 ag)))))))))))))),?_⟩
 unfold jL at q;ac_rfl;refine⟨by show 3<=sizeLine;decide,λp hp=>?_⟩;have s0:=ax hp (.lst [V.int 0,.int 1,.int (c/48%(1000000000+1))]);ac_rfl;refine bK (ao.of aq) (v:=.int (cP c)) (Cq c) ?_;ac_rfl;refine bC (λe=>?_) (λe=>?_)
 ·have e':c%8=0:=Ot e;rw[Ol e']at q;ac_rfl;refine⟨by show 9<=sizeLine;decide,λla QF=>?_⟩;have t1:=ax QF (.lst (([cP c,1,1,0,0,0,0,0,0]:Rv).map V.int));ac_rfl;refine⟨by show 3<=sizeLine;decide,λt ht=>?_⟩;exact q _ _ (s0.trans (t1.trans (ax ht _))) (pC (l:=[cP c,1,1,0,0,0,0,0,0]) (s0.free QF) aq ht)
 have e0:¬ c%8=0:=Ou (Ow.mpr e);rw[Oh e0]at q;ac_rfl;refine bC (λe=>?_) (λe=>?_)
 ·have e':c%8=1:=Ot e;rw[Ol e']at q;ac_rfl;refine⟨by show 9<=sizeLine;decide,λla QF=>?_⟩;have t1:=ax QF (.lst (([cP c,c/24%2,1 - c/24%2,0,0,0,0,0,0]:Rv).map V.int));ac_rfl;refine⟨by show 3<=sizeLine;decide,λt ht=>?_⟩;exact q _ _ (s0.trans (t1.trans (ax ht _))) (pC (l:=[cP c,c/24%2,1 - c/24%2,0,0,0,0,0,0]) (s0.free QF) aq ht)
 have e1:¬ c%8=1:=Ou (Ow.mpr e);rw[Oh e1]at q;ac_rfl;refine bC (λe=>?_) (λe=>?_)
 ·have e':c%8=2:=Ot e;rw[Ol e']at q;ac_rfl;refine⟨by show 9<=sizeLine;decide,λla QF=>?_⟩;have t1:=ax QF (.lst (([cP c,1,c/48%2,0,0,0,0,0,0]:Rv).map V.int));ac_rfl;refine⟨by show 4<=sizeLine;decide,λt ht=>?_⟩;exact q _ _ (s0.trans (t1.trans (ax ht _))) (DJ (l:=[cP c,1,c/48%2,0,0,0,0,0,0]) (s0.free QF) aq ht)
 have e2:¬ c%8=2:=Ou (Ow.mpr e);rw[Oh e2]at q;ac_rfl;refine bC (λe=>?_) (λe=>?_)
 ·have e':c%8=3:=Ot e;rw[Ol e']at q;ac_rfl;refine vq ?_;ac_rfl;refine⟨by show 4<=sizeLine;decide,λt ht=>?_⟩;exact q _ _ (s0.trans (ax ht _)) (DI ht)
 have e3:¬ c%8=3:=Ou (Ow.mpr e);rw[Oh e3]at q;ac_rfl;refine bC (λe=>?_) (λe=>?_)
 ·have e':c%8=4:=Ot e;rw[Ol e']at q;ac_rfl;refine⟨by show 9<=sizeLine;decide,λla QF=>?_⟩;have t1:=ax QF (.lst (([cP c,1,c/24%2,0,0,0,0,0,0]:Rv).map V.int));ac_rfl;refine⟨by show 2<=sizeLine;decide,λt ht=>?_⟩;exact q _ _ (s0.trans (t1.trans (ax ht _))) (DH (l:=[cP c,1,c/24%2,0,0,0,0,0,0]) (s0.free QF) aq ht)
 have e4:¬ c%8=4:=Ou (Ow.mpr e);rw[Oh e4]at q;ac_rfl;refine bC (λe=>?_) (λe=>?_)
 ·have e':c%8=5:=Ot e;rw[Ol e']at q;ac_rfl;refine dF (.inl (s0.seq hN)) ?_;rw[aT];have hlp:(0:Int)<(P8.length:Int):=by omega
  ac_rfl;have a1:=OU (c/48) (show((P8.length:Nat):Int)≠0 by omega);have a2:=OQ (c/48) hlp;refine bK (s0.seq hK) (ly a1 (by omega)) ?_;ac_rfl;refine bC (λe2=>?_) (λe2=>?_)
  ·have e2':Qh.getD (iO c P8) 0=0:=Ot e2;rw[Ol e2']at q;ac_rfl;refine⟨by show 2<=sizeLine;decide,λu hu'=>?_⟩;have t1:=ax hu' (.tup [V.int (c/192%4),.int ((c/192%4+1+c/768%3)%4)]);ac_rfl;refine bK ((s0.trans t1).seq hN) (ly a1 a2) ?_;ac_rfl;refine⟨by show 2<=sizeLine;decide,λg hg=>?_⟩;have t2:=ax hg (.tup [V.int (c/24%2),.int (c/96%2)]);ac_rfl;refine⟨by show 4<=sizeLine;decide,λt ht=>?_⟩;exact q _ _ (s0.trans (t1.trans (t2.trans (ax ht _)))) (tO aq (t2 _ _ aq) ht)
  ·have e2':¬ Qh.getD (iO c P8) 0=0:=Ou (Ow.mpr e2);rw[Oh e2']at q;ac_rfl;refine bK (s0.seq hN) (ly a1 a2) ?_;ac_rfl;refine⟨by show 2<=sizeLine;decide,λg hg=>?_⟩;have t1:=ax hg (.tup [V.int (c/24%2),.int (c/96%4)]);ac_rfl;refine⟨by show 2<=sizeLine;decide,λu hu'=>?_⟩;have t2:=ax hu' (.tup [V.int (c/384%2),.int (2+c/768%2)]);ac_rfl;refine⟨by show 4<=sizeLine;decide,λt ht=>?_⟩;exact q _ _ (s0.trans (t1.trans (t2.trans (ax ht _)))) (tO (t2 _ _ aq) aq ht)
 have e5:¬ c%8=5:=Ou (Ow.mpr e);rw[Oh e5]at q;ac_rfl;exact⟨_,_,rfl,hc,λv H1 s1 n1=>q v H1 (s0.trans s1) (n1.back s0)⟩
def xn (K:Fg):Sp:=λvs H Q _=>∃ i:Int,vs=[.int i]/\0<=i/\∀ v H',ae H H'->ak H H' (nums (aD i)) v->Q v H'
theorem kE{i:Int}(h:0<=i)(q:∀ v H',ae H H'->ak H H' (nums (aD i)) v->Q v H'):xn K [.int i] H Q E:=⟨i,rfl,h,q⟩
include B Z in
theorem JR (F:aN K "_law_bare" "_law_bare" w6 f fd)(m:mg "_law_bare"=some (.ref f)):Fn P w K mg b8 "_law_bare" ["i"] 1 (xn K):=by
 refine bQ F D4 m λ_ _ _ _ H vs Q E hr h=>?_;obtain⟨i,rfl,h0,q⟩:=h;nomatch _,(aw (aF (jC (bB.f D4 ["i","k"] [false,true]) (hU rfl B.range (jk ag)) (λn=>(jg 1 n)) (mI sg rfl B.int L2.JX (Gx (jE K hr (pv 1) (jp K (pv 0) ah)) ag)))));ac_rfl;refine hJ (by decide) (by decide) ?_;refine cG (n:=9) kO ((aD i).map D.int) (by simp[aD]) (by decide) (λj x d H1 R hj hd s1 hx hR=>?_) (λv H1 s1 n1=>?_)
 ·subst hx;rw[<-IW h0,OZ]at hd;have hd':=oF hd;subst hd';ac_rfl;refine FV ?_;exact hR _ _ (ae.refl _) ak.int
 ·ac_rfl;exact q _ _ s1 n1
inductive Ac (K:Fg)(vs:Ry)(H:Hp)(Q:VK)(E:XK):Prop|mk (kind:Int) (ca na ka:Q2) (cells P8 Qh:Rv):vs=[.int kind,.ref ca,.ref na,.ref ka]->ao K H ca (cells.map V.int)->ao K H na (P8.map V.int)->ao K H ka (Qh.map V.int)->P8.length=Qh.length->0<P8.length->cells.length<=8->(∀ v H',ae H H'->ak H H' (lT (zQ kind cells P8 Qh)) v->Q v H')->Ac K vs H Q E
include B Z in
theorem Nx (Q8a:Fn P w K mg b8 "_law_second_deed" ["cell","count","numbers","kinds"] 5 (Ad K))(Q88:Fn P w K mg b8 "_law_first_deed" ["cell","count","numbers","kinds"] 5 (Ae K))(Q81:Fn P w K mg b8 "_law_bare" ["i"] 1 (xn K))(F:aN K "_law_sworn_parts" "_law_sworn_parts" yF f fd)(m:mg "_law_sworn_parts"=some (.ref f)):Fn P w K mg b8 "_law_sworn_parts" ["kind","cells","numbers","kinds"] 6 (Ac K):=by
 refine bQ F i9 m λ_ _ _ _ H vs Q E hr h=>?_;obtain⟨kind,ca,na,ka,cells,P8,Qh,rfl,hC,hN,hK,hl,h0,c8,q⟩:=h;refine⟨_,(av (js 4 i9.nd (b9 (dw K) rfl B.len L2.boot_len (jn 1 ag)))
   (av (bb (jt K hr (pv 0) ah) (av (jS 5 i9.nd (bB.f i9 ["kind","cells","numbers","kinds","count","deeds","needs","notes","cell"] [false,false,false,false,false,false,false,false,true]) (c_ K (pv 1)) (λn=>(jg 8 n)) (jl Q88 hr (jn 8 (jn 4 (jn 2 (jn 3 ag))))))
   (av (js 6 i9.nd (bu (bv (jl Q81 hr (jk ag)) (bv (jl Q81 hr (jk ag)) ag))))
   (av (jS 7 i9.nd (bB.f i9 ["kind","cells","numbers","kinds","count","deeds","needs","notes","cell"] [false,false,false,false,false,false,false,false,true]) (c_ K (pv 1)) (λn=>(jg 8 n)) (bu (bv (jl Q81 hr (jk ag)) (bv (jl Q81 hr (jk ag)) ag))))
   (aw (aF (bu (jn 6 (dJ (bu (bv (jl Q81 hr (jk ag)) (bv (jl Q81 hr (jk ag)) ag))) (jn 5 (jn 7 ag)))))))))) bp)
   (av (jS 5 i9.nd (bB.f i9 ["kind","cells","numbers","kinds","count","deeds","needs","notes","cell"] [false,false,false,false,false,false,false,false,true]) (c_ K (pv 1)) (λn=>(jg 8 n)) (jl Q8a hr (jn 8 (jn 4 (jn 2 (jn 3 ag))))))
   (av (jS 7 i9.nd (bB.f i9 ["kind","cells","numbers","kinds","count","deeds","needs","notes","cell"] [false,false,false,false,false,false,false,false,true]) (c_ K (pv 1)) (λn=>(jg 8 n)) (bu (dJ (bu (jk (jk (jk (jk (jk (iE (dG dL ah) (jk (jk (jk ag)))))))))) (bv (jl Q81 hr (jk ag)) ag))))
   (aw (aF (bu (dJ (bu (bv (jl Q81 hr (jk ag)) ag)) (dJ (bu (dJ (bu (jk (jk (jk (jk (jk (iE (dG dL ah) (jk (jk (jk ag)))))))))) (bv (jl Q81 hr (jk ag)) ag))) (jn 5 (jn 7 ag))))))))))),?_⟩
 unfold lT zQ at q;dsimp only at q;left;nofun;refine dF (.inl hC) ?_;rw[aT];nofun;left;nofun;refine bC (λe=>?_) (λe=>?_)
 ·have e':kind=0:=Ot e;have eo:eI kind=([aD 4,aD 5],[aD 6,aD 7]):=by unfold eI;rw[Ol e']
  have en:jK kind=[aD 0,aD 1]:=by unfold jK;rw[Ol e']
  have ed:(cells.map λc=>kh kind c cells.length P8 Qh)=cells.map λc=>jL c cells.length P8 Qh:=Sd λc _=>by unfold kh;rw[Ol e']
  rw[eo,en,ed]at q;left;nofun;nomatch ca,rfl,⟨_,hC⟩;refine cG (dO hC) ((cells.map λc=>jL c cells.length P8 Qh).map cT) (by simp) (br (by rw[aT];omega)) (λj x d H1 R hj hd s1 hx hR=>?_) (λv3 H1 s1 n1=>?_)
  ·rw[aM]at hx;obtain⟨c,hc,rfl⟩:=bV.mp hx;rw[aM,aM,hc]at hd;cases hd;nofun;exact⟨c,_,na,ka,P8,Qh,rfl,by omega,s1.seq hN,s1.seq hK,hl,h0,λv H2 s2 n2=>hR v H2 s2 n2⟩
  nofun;left;nofun;refine kE (by decide) λu1 H2 s2 n2=>?_;nofun;refine kE (by decide) λu2 H3 s3 n3=>?_;nofun;refine⟨(by right),λp1 hp1=>?_⟩;have k1:=pB s2 n2 s3 n3 hp1;have t1:=s2.trans (s3.trans (ax hp1 (.lst [u1,u2])));generalize (upd H3 p1 (.lst [u1,u2]))=H4 at k1 t1;nofun;left;nofun;have t01:=s1.trans t1;nomatch ca,rfl,⟨_,t01.seq hC⟩;refine cG (dO (t01.seq hC)) ((cells.map λ_=>[aD 0,aD 1]).map bo) (by simp) (br (by rw[aT];omega)) (λj x d H5 R hj hd s5 hx hR=>?_) (λv4 H5 s5 n5=>?_)
  ·rw[aM,aM]at hd;obtain⟨b,hb,rfl⟩:=bV.mp hd;obtain⟨c,hc,rfl⟩:=bV.mp hb;nofun;refine kE (by decide) λu3 H6 s6 n6=>?_;nofun;refine kE (by decide) λu4 H7 s7 n7=>?_;nofun;exact⟨(by right),λp hp=>hR _ _ (s6.trans (s7.trans (ax hp _))) (pB s6 n6 s7 n7 hp)⟩
  nofun;refine kE (by decide) λu5 H6 s6 n6=>?_;nofun;refine kE (by decide) λu6 H7 s7 n7=>?_;nofun;refine⟨(by right),λp2 hp2=>?_⟩;have k2:=pB s6 n6 s7 n7 hp2;have t2:=s6.trans (s7.trans (ax hp2 (.lst [u5,u6])));generalize (upd H7 p2 (.lst [u5,u6]))=H8 at k2 t2;nofun;refine⟨(by right),λp3 hp3=>?_⟩;have w1:bD H H1 [.lst ((cells.map λc=>jL c cells.length P8 Qh).map cT)] [v3]:=bD.nil.snoc (H1:=H) (ae.refl H) s1 n1;have w2:=w1.snoc s1 t1 k1;have w3:=w2.snoc t01 s5 n5;have w4:=w3.snoc (t01.trans s5) t2 k2;have st:=(t01.trans s5).trans t2;exact q _ _ (st.trans (ax hp3 _)) ((bD.perm4 w4).lst st hp3)
 ·have e':¬ kind=0:=Ou (Ow.mpr e);have eo:eI kind=([aD 4],[[0,0,0,0,0,-1,0,1,0],aD 6]):=by unfold eI;rw[Oh e']
  have en:jK kind=[e1,aD 4]:=by unfold jK;rw[Oh e']
  have ed:(cells.map λc=>kh kind c cells.length P8 Qh)=cells.map λc=>jO c cells.length P8 Qh:=Sd λc _=>by unfold kh;rw[Oh e']
  rw[eo,en,ed]at q;nofun;left;nofun;nomatch ca,rfl,⟨_,hC⟩;refine cG (dO hC) ((cells.map λc=>jO c cells.length P8 Qh).map cT) (by simp) (br (by rw[aT];omega)) (λj x d H1 R hj hd s1 hx hR=>?_) (λv3 H1 s1 n1=>?_)
  ·rw[aM]at hx;obtain⟨c,hc,rfl⟩:=bV.mp hx;rw[aM,aM,hc]at hd;cases hd;nofun;exact⟨c,_,na,ka,P8,Qh,rfl,by omega,s1.seq hN,s1.seq hK,hl,h0,λv H2 s2 n2=>hR v H2 s2 n2⟩
  nofun;left;nofun;nomatch ca,rfl,⟨_,s1.seq hC⟩;refine cG (dO (s1.seq hC)) ((cells.map λ_=>[e1,aD 4]).map bo) (by simp) (br (by rw[aT];omega)) (λj x d H5 R hj hd s5 hx hR=>?_) (λv4 H5 s5 n5=>?_)
  ·rw[aM,aM]at hd;obtain⟨b,hb,rfl⟩:=bV.mp hd;obtain⟨c,hc,rfl⟩:=bV.mp hb;nofun;refine⟨(by right),λla QF=>?_⟩;have t6:=ax QF (.lst (e1.map V.int));have n6:ak H5 (upd H5 la (.lst (e1.map V.int))) (nums e1) (.ref la):=ak.iif.mpr ⟨la,rfl,QF,aq⟩;nofun;refine kE (by decide) λu4 H7 s7 n7=>?_;nofun;exact⟨(by right),λp hp=>hR _ _ (t6.trans (s7.trans (ax hp _))) (pB t6 n6 s7 n7 hp)⟩
  have s15:=s1.trans s5;nofun;refine kE (by decide) λu1 H6 s6 n6=>?_;nofun;refine⟨(by right),λp1 hp1=>?_⟩;have k1:=G0 s6 n6 hp1;have t1:=s6.trans (ax hp1 (.lst [u1]));generalize (upd H6 p1 (.lst [u1]))=H7 at k1 t1;nofun;refine⟨(by right),λla QF=>?_⟩;have t8:=ax QF (.lst (([0,0,0,0,0,-1,0,1,0]:Rv).map V.int));have n8:ak H7 (upd H7 la (.lst (([0,0,0,0,0,-1,0,1,0]:Rv).map V.int))) (nums [0,0,0,0,0,-1,0,1,0]) (.ref la):=ak.iif.mpr ⟨la,rfl,QF,aq⟩;nofun;refine kE (by decide) λu2 H9 s9 n9=>?_;nofun;refine⟨(by right),λp2 hp2=>?_⟩;have k2:=pB t8 n8 s9 n9 hp2;have t2:=t8.trans (s9.trans (ax hp2 (.lst [.ref la,u2])));generalize (upd H9 p2 (.lst [.ref la,u2]))=Ha at k2 t2;nofun;refine⟨(by right),λp3 hp3=>?_⟩;have w1:bD H H1 [.lst ((cells.map λc=>jO c cells.length P8 Qh).map cT)] [v3]:=bD.nil.snoc (H1:=H) (ae.refl H) s1 n1;have w2:=w1.snoc s1 s5 n5;have w3:=w2.snoc s15 t1 k1;have w4:=w3.snoc (s15.trans t1) t2 k2;have st:=(s15.trans t1).trans t2;exact q _ _ (st.trans (ax hp3 _)) ((bD.perm4' w4).lst st hp3)
def iV (ns:Rv)(start size:Int)(k:Nat):Rv:=(RD (1+aR (cell ns (start+2)) (0+(k:Int)) size).toNat).map λ(i:Nat)=>cell ns (start+3+size*(0+(k:Int))+(0+(i:Int)))+48271*(0+(i:Int))
def wy (P8 Qh:Rv)(cells:Nat->Rv)(k:Nat):D:=.tup [.int (P8.getD k 0),lT (jo P8 Qh cells k)]
theorem ak.pairD{H1:Hp}{n:Int}{t:Q2}(k:ak H H1 d v)(ht:H1 t=none):ak H (upd H1 t (.tup [.int n,v])) (.tup [.int n,d]) (.ref t):=by obtain⟨fp,h1,h2,h3⟩:=k;have h1':=ai.sq (ax ht (.tup [.int n,v])).sq _ h1;have:=aj.cint (i:=n) (aj.cany h1' aj.nil);rw[OP]at this;exact ak.tup this h2 h3 aq
inductive Ab (K:Fg)(vs:Ry)(H:Hp)(Q:VK)(E:XK):Prop|mk (a:Q2) (start many size:Int) (ns:Rv):vs=[.ref a,.int start,.int many,.int size]->ao K H a (ns.map V.int)->0<=start->1<=many->many<=3->1<=size->size<=8->(∀ v H' P8 Qh (cells:Nat->Rv),ae H H'->lW many size P8 Qh cells->ak H H' (.lst ((RD many.toNat).map (wy P8 Qh cells))) v->Q v H')->Ab K vs H Q E
variable (Q7c:Fn P w K mg b8 "_law_cell_at" ["script","k"] 1 (uO K))
include B Z Q7e Q7c in
theorem MZ (Q8c:Fn P w K mg b8 "_law_sworn_parts" ["kind","cells","numbers","kinds"] 6 (Ac K))(F:aN K "_law_hall_parts" "_law_hall_parts" yL f fd)(m:mg "_law_hall_parts"=some (.ref f)):Fn P w K mg b8 "_law_hall_parts" ["script","start","many","size"] 7 (Ab K):=by
 refine bQ F iN m λ_ _ _ _ H vs Q E hr h=>?_;obtain⟨a,start,many,size,ns,rfl,hS,st0,m1,m3,z1,z8,q⟩:=h;refine⟨_,(av (js 4 iN.nd (bu ag))
   (av (gx RN rfl (hU rfl B.range (jn 2 ag)) (jg 5 iN.nd) (av (js 6 iN.nd (jl Q7e hr (bv (jl Q7c hr (jn 0 (jn 1 ag))) (jn 5 (jk ag)))))
   (av (tW RN (jc (mS K) (pv 6) (pv 4)) (aw (js 6 iN.nd (aK cg (jp K (pv 6) ah) ah))))
   (aw (dA (nE PM PySem.F.slot_list_append PySem.F.type_list_append ul (pv 4) (jn 6 ag)))))))
   (av (jS 7 iN.nd (bB.f iN ["script","start","many","size","numbers","k","number","kinds","found","count","cells"] [false,false,false,false,false,true,false,false,false,false,false]) (hU rfl B.range (jn 2 ag)) (λn=>(jg 5 n)) (jl Q7e hr (bv (jl Q7c hr (jn 0 (bw (jp K (pv 1) ah) ag))) (jn 5 (jk ag)))))
   (av (js 8 iN.nd (bu ag))
   (av (gx RN rfl (hU rfl B.range (jn 2 ag)) (jg 5 iN.nd) (av (js 9 iN.nd (jp K ah (jl Q7e hr (bv (jl Q7c hr (jn 0 (bw (jp K (pv 1) ah) ag))) (jn 5 (jn 3 ag))))))
   (av (jS 10 iN.nd (bB.f iN ["script","start","many","size","numbers","k","number","kinds","found","count","cells","i"] [false,false,false,false,false,false,false,false,false,false,false,true]) (hU rfl B.range (jn 9 ag)) (λn=>(jg 11 n)) (jp K (jl Q7c hr (jn 0 (bw (jp K (jp K (jp K (pv 1) ah) (aK h_ (pv 3) (pv 5))) (pv 11)) ag))) (aK h_ ah (pv 11))))
   (aw (dA (nE PM PySem.F.slot_list_append PySem.F.type_list_append ul (pv 8) (iU (b_ (bc (jx K (pv 4) (pv 5)) (bv (jl Q8c hr (bc (jx K (pv 7) (pv 5)) (jn 10 (jn 4 (jn 7 ag))))) ag))) ag)))))))
   (aw (aF (pv 8)))))))),?_⟩
 left;nofun;refine⟨(by right),λna na0=>?_⟩;have s0:=ax na0 (.lst []);have hna0:(upd H na (.lst [])) na=some (.lst (([]:Rv).map V.int)):=aq;generalize (upd H na (.lst []))=H0 at s0 hna0;nofun;left;nofun;refine hJ (by omega) (by omega) ?_;refine pJ (λi σ H2=>E3 λx y nn=>A6 (σ=[some (.ref a),some (.int start),some (.int many),some (.int size),some (.ref na),x,y,none,none,none,none]) (ae H H2) (H2 na=some (.lst ((nn:Rv).map V.int))) (nn.length=i) (nn.Nodup) (∀ n∈nn,0<=n/\n<100))
  ⟨none,none,[],rfl,s0,hna0,rfl,OX,λn hn=>by cases hn⟩ ?_ ?_
 ·rintro i σ H2 hi ⟨x,y,nn,rfl,s2,hna,ln,nnd,nb⟩;have hi':i<many.toNat:=hi;nofun;left;nofun;refine iQ (s2.seq hS) st0 ?_;nofun;refine eK (by decide) ?_;have b1:=gF (c:=cell ns start) (k:=0+(i:Int)) (m:=100) (by decide);have b2:=gu (c:=cell ns start) (k:=0+(i:Int)) (m:=100) (by decide);generalize aR (cell ns start) (0+(i:Int)) 100=sn at b1 b2;nofun;left;refine⟨λm σ' H'=>∃ j:Nat,m=100 - j/\j<=10/\σ'=[some (.ref a),some (.int start),some (.int many),some (.int size),some (.ref na),some (.int (0+(i:Int))),some (.int ((sn+(j:Int))%100)),none,none,none,none]/\H'=H2/\∀ x∈lM sn j,x∈nn,⟨100,0,rfl,by decide,by rw[show(sn+((0:Nat):Int))%100=sn by omega];rfl,rfl,λx hx=>by simp[lM]at hx⟩,?_⟩;rintro m σ' H' ⟨j,rfl,j10,rfl,rfl,hj⟩;nofun;refine Bv (ao.of hna) ?_;by_cases hin:(sn+(j:Int))%100∈nn
  ·rw[Og hin];nofun;have st:∀ x∈lM sn (j+1),x∈nn:=λx hx=>by
    unfold lM at hx;rw[Pi,OF]at hx;rcases bW.mp hx with z|z
    ·exact hj x z
    ·rw[List.map_singleton,bn]at z;rw[z];exact hin
   have few:=Ki (j:=j+1) (by omega) st;exists λσ2 Hx=>σ2=[some (.ref a),some (.int start),some (.int many),some (.int size),some (.ref na),some (.int (0+(i:Int))),some (.int (((sn+(j:Int))%100+1)%100)),none,none,none,none]/\Hx=H',λσ2 Hx ⟨e1,e2⟩=>⟨100 - (j+1),by omega,j+1,rfl,by omega,by rw[e1,show((sn+(j:Int))%100+1)%100=(sn+((j+1:Nat):Int))%100 by omega],e2,st⟩;exact⟨rfl,rfl⟩
  ·rw[Oq hin];nofun;exists lS hna;refine vp hna (j4 (by rw[aT];omega)) ?_;nofun;refine⟨_,_,nn++[(sn+(j:Int))%100],rfl,s2.put na0,by rw[aq,OF];rfl,by rw[OA,ln];rfl,v9 nnd hin,λn hn=>?_⟩;rcases bW.mp hn with z|z
   ·exact nb n z
   ·rw[bn.mp z];omega
 rintro σ H1 ⟨x5,x6,P8,rfl,s1,hna,ln,nnd,nb⟩;nofun;left;nofun;refine hJ (by omega) (by omega) ?_;refine cG kO (((RD many.toNat).map λ(k:Nat)=>aR (cell ns (start+1)) (0+(k:Int)) 2).map D.int) (by simp) (br (by omega)) (λj x d H2 R hj hd s2 hx hR=>?_) (λv H2 s2 n2=>?_)
 ·subst hx;rw[OZ]at hd;have hd':=oF hd;subst hd';nofun;refine iQ ((s1.trans s2).seq hS) (by omega) ?_;nofun;refine eK (by decide) ?_;exact hR _ _ (ae.refl _) ak.int
 obtain⟨ka,rfl,ka0,hka⟩:=ak.iif.mp n2;have hkn:(Sa (λ(k:Nat)=>aR (cell ns (start+1)) (0+(k:Int)) 2) (RD many.toNat)).length=many.toNat:=by simp
 have hkb:∀ k∈Sa (λ(k:Nat)=>aR (cell ns (start+1)) (0+(k:Int)) 2) (RD many.toNat),k=0\/k=1:=λk hk=>by obtain⟨i,_,rfl⟩:=bU.mp hk;have b1:=gF (c:=cell ns (start+1)) (k:=0+(i:Int)) (m:=2) (by decide);have b2:=gu (c:=cell ns (start+1)) (k:=0+(i:Int)) (m:=2) (by decide);omega
 generalize Sa (λ(k:Nat)=>aR (cell ns (start+1)) (0+(k:Int)) 2) (RD many.toNat)=Qh at hka hkn hkb;have hna2:=s2 _ _ hna;have s02:=s1.trans s2;have hcl:∀ i,1<=(iV ns start size i).length/\(iV ns start size i).length<=size.toNat:=λi=>by have b1:=gF (c:=cell ns (start+2)) (k:=0+(i:Int)) (m:=size) (by omega);have b2:=gu (c:=cell ns (start+2)) (k:=0+(i:Int)) (m:=size) (by omega);unfold iV;rw[aT,Pj];omega
 have HP:lW many size P8 Qh (iV ns start size):=⟨ln,hkn,nnd,nb,hkb,hcl⟩;have q:=q;nofun;left;nofun;refine⟨(by right),λfa fa0=>?_⟩;have s3:=ax fa0 (.lst []);have hfa:(upd H2 fa (.lst [])) fa=some (.lst []):=aq;have f3:cE H (upd H2 fa (.lst [])):=s02.fr.trans j0;generalize (upd H2 fa (.lst []))=H3 at s3 hfa f3;nofun;left;nofun;refine hJ (by omega) (by omega) ?_;refine pJ (λi σ H4=>E5 λy5 y6 y9 y10 vs=>A4 (σ=[some (.ref a),some (.int start),some (.int many),some (.int size),some (.ref na),y5,y6,some (.ref ka),some (.ref fa),y9,y10]) (ae H2 H4) (cE H H4) (fk H fa H4 ((RD i).map (wy P8 Qh (iV ns start size))) vs))
  ⟨_,_,none,none,[],rfl,s3,f3,fk.start hfa⟩ ?_ ?_
 ·rintro i σ H4 hi ⟨y5,y6,y9,y10,vs,rfl,s4,f4,ac⟩;have hi':i<many.toNat:=hi;have b1:=gF (c:=cell ns (start+2)) (k:=0+(i:Int)) (m:=size) (by omega);have b2:=gu (c:=cell ns (start+2)) (k:=0+(i:Int)) (m:=size) (by omega);have s04:=s02.trans s4;nofun;left;nofun;refine iQ (s04.seq hS) (by omega) ?_;nofun;refine eK (by omega) ?_;nofun;left;nofun;refine hJ (by omega) (by omega) ?_;refine cG kO ((iV ns start size i).map D.int) (by simp[iV]) (br (by omega)) (λj x d H5 R hj hd s5 hx hR=>?_) (λv H5 s5 n5=>?_)
  ·subst hx;unfold iV at hd;rw[OZ]at hd;have hd':=oF hd;subst hd';have pos:0<=size*(0+(i:Int)):=Int.mul_nonneg (by omega) (by omega);nofun;refine iQ ((s04.trans s5).seq hS) (by omega) ?_;nofun;exact hR _ _ (ae.refl _) ak.int
  obtain⟨ca,rfl,ca0,hca⟩:=ak.iif.mp n5;have s25:=s4.trans s5;nofun;exists lS (s5 _ _ ac.get);refine bK (ao.of (s25 _ _ hna2)) (ly (by omega) (by omega)) ?_;nofun;refine bK (ao.of (s25 _ _ hka)) (ly (by omega) (by omega)) ?_;nofun;refine⟨_,ca,na,ka,iV ns start size i,P8,Qh,rfl,ao.of hca,ao.of (s25 _ _ hna2),ao.of (s25 _ _ hka),by omega,by omega,by have:=(hcl i).2;omega,λv H6 s6 n6=>?_⟩;have s46:=s5.trans s6;nofun;refine⟨(by right),λT hT=>?_⟩;have n7:ak H4 (upd H6 T (.tup [.int (P8.getD i 0),v])) (wy P8 Qh (iV ns start size) i) (.ref T):=by have:=ak.pairD (n:=P8.getD i 0) (n6.back s5) hT;rw[show(0+(i:Int)).toNat=i by omega]at this;exact this
  rw[show(0+(i:Int)).toNat=i by omega];have s7:=s46.trans (ax hT (.tup [.int (P8.getD i 0),v]));have lv:=ac.len;simp only[aT,Pj]at lv;nofun;refine vp (s7 _ _ ac.get) (j4 (by omega)) ?_;nofun;nomatch _,_,_,_,vs++[.ref T],rfl,(s4.trans s7).put fa0,f4.trans (s7.fr.trans j0);rw[Pi,OF];exact ac.app f4 s7 n7
 ·rintro σ H4 ⟨y5,y6,y9,y10,vs,rfl,s4,f4,ac⟩;nofun;exact q _ _ P8 Qh (iV ns start size) (s02.trans s4) HP (ac.new (s02.free fa0))
inductive Ag (K:Fg)(vs:Ry)(H:Hp)(Q:VK)(E:XK):Prop|mk (c:Int) (za:Q2) (zs:Rv):vs=[.int c,.ref za]->ao K H za (zs.map V.int)->(∀ v H',ae H H'->ak H H' (nums (fM c zs)) v->Q v H')->Ag K vs H Q E
theorem JQ (zs:Rv):(zs.map V.int).all fL=true:=by rw[OT,OJ];intro x _;rfl
include B Z Q7e Q80 in
theorem Ma (F:aN K "_law_line_by" "_law_line_by" xX f fd)(m:mg "_law_line_by"=some (.ref f)):Fn P w K mg b8 "_law_line_by" ["cell","zero"] 3 (Ag K):=by
 refine bQ F uy m λ_ _ _ _ H vs Q E hr h=>?_;obtain⟨c,za,zs,rfl,hZ,q⟩:=h;refine⟨_,(av (jS 2 uy.nd (bB.f uy ["cell","zero","line","k"] [false,false,false,true]) (hU rfl B.range (jk ag)) (λn=>(jg 3 n)) (jl Q80 hr (jn 0 (bw (aK h_ ah (pv 3)) ag))))
   (av (gx RN rfl (hU rfl B.range (jk ag)) (jg 3 uy.nd) (aw (bb (PW.pt (jF (jc (mS K) (pv 3) (pv 1)) (nW (jt K hr (jl Q7e hr (jn 0 (bw (jp K ah (pv 3)) (jk ag)))) ah)))) (aw (nV ah (pc (pv 2) (jp K (pv 3) ah) pU))) bp)))
   (aw (aF (pv 2))))),?_⟩
 ac_rfl;refine hJ (by decide) (by decide) ?_;refine cG (n:=9) kO (((RD 9).map λ(j:Nat)=>aE c (5*(0+(j:Int)))).map D.int) (by simp) (by decide) (λi x d H1 R hi hd s1 hx hR=>?_) (λv H1 s1 n1=>?_)
 ·subst hx;rw[OZ]at hd;have hd':=oF hd;subst hd';ac_rfl;refine ot λH2 s2=>?_;exact hR _ _ s2 ak.int
 obtain⟨la,rfl,la0,la1⟩:=ak.iif.mp n1;rw[<-KP c zs]at la1;ac_rfl;refine hJ (by decide) (by decide) ?_;refine pJ (λi σ H2=>∃ x,i<=8/\σ=[some (.int c),some (.ref za),some (.ref la),x]/\ae H H2/\H2 la=some (.lst ((fK c zs i).map V.int)))
  ⟨none,by decide,rfl,s1,la1⟩ ?_ ?_
 ·rintro i σ H2 hi ⟨x,_,rfl,s2,e2⟩;have i8:i<8:=hi;have step:∀ b:Bool,gY c zs i=b->(b=true->(gO ((fK c zs i).map V.int).length (0+(i:Int)+1)=some (i+1))):=λb hb _=>by rw[aT,MK];unfold gO;rw[Ol (by omega),Ol (by omega)];congr 1;omega
  have yes:gY c zs i=true->∃ x,i+1<=8/\[some (V.int c),some (.ref za),some (.ref la),some (.int (0+(i:Int)))]=[some (.int c),some (.ref za),some (.ref la),x]/\ae H (upd H2 la (.lst (((fK c zs i).map V.int).set (i+1) (.int 0))))/\(upd H2 la (.lst (((fK c zs i).map V.int).set (i+1) (.int 0)))) la=some (.lst ((fK c zs (i+1)).map V.int)):=λhb=>by
   nomatch _,by omega,rfl,λd o e=>?_
   ·rw[aC (cj e la0)];exact s2 _ _ e
   ·rw[aq,<-Ks i8 hb,List.map_set]
  ac_rfl;refine rB (neg:=false) (.inl (s2.seq hZ)) rfl (JQ zs) ?_;cases hb1:j7 (.int (0+(i:Int))) (zs.map V.int)with
  |true=>
   have hb:gY c zs i=true:=by unfold gY;rw[hb1];rfl
   show ∃ k,V.bl true=.bl k/\_;ac_rfl;refine nP e2 (step true hb rfl) ?_;exact yes hb|false=>show ∃ k,V.bl false=.bl k/\_;ac_rfl;refine eK (by decide) ?_;ac_rfl;cases hb2:decide (aR c (60+(0+(i:Int))) 3=0)with
   |true=>
    have hb:gY c zs i=true:=by unfold gY;rw[hb1,hb2];rfl
    ac_rfl;refine nP e2 (step true hb rfl) ?_;exact yes hb|false=>
    have hb:gY c zs i=false:=by unfold gY;rw[hb1,hb2];rfl
    ac_rfl;exact⟨_,by omega,rfl,s2,by rw[<-KQ hb];exact e2⟩
 ·rintro σ H2 ⟨x,_,rfl,s2,e2⟩;ac_rfl;refine q _ _ s2 (ak.iif.mpr ⟨la,rfl,la0,?_⟩);rw[<-Kr];exact e2
inductive Aa (K:Fg)(vs:Ry)(H:Hp)(Q:VK)(E:XK):Prop|mk (c count:Int):vs=[.int c,.int count]->0<=count->(∀ v H',ae H H'->ak H H' (sQ c count) v->Q v H')->Aa K vs H Q E
include B Z Q7e Q80 in
theorem L_ (Q83:Fn P w K mg b8 "_law_line_by" ["cell","zero"] 3 (Ag K))(F:aN K "_law_deed_by" "_law_deed_by" xW f fd)(m:mg "_law_deed_by"=some (.ref f)):Fn P w K mg b8 "_law_deed_by" ["cell","count"] 4 (Aa K):=by
 refine bQ F oH m λ_ _ _ _ H vs Q E hr h=>?_;obtain⟨c,count,rfl,hc,q⟩:=h;refine⟨_,(av (js 2 oH.nd (jl Q83 hr (bw (aK cy (pv 0) ah) (dJ (bu (jk (jk ag))) ag))))
   (av (js 3 oH.nd (jl Q7e hr (jn 0 (jk (jk ag)))))
   (av (js 4 oH.nd (jl Q7e hr (jn 0 (jk (jk ag)))))
   (av (bb (jt K hr (pv 4) ah) (aw (aF (b_ (cM bJ (jn 3 (jn 2 ag)))))) bp)
   (av (bb (jt K hr (pv 4) ah) (aw (aF (b_ (cM bJ (jn 3 (jn 2 (bc (jx K (bu (jk (jk (bw (jp K ah (jl Q7e hr (jn 0 (jk (jk ag))))) (jk ag))))) (jl Q7e hr (jn 0 (jk (jk ag))))) ag))))))) bp)
   (av (bb (jt K hr (pv 4) ah) (av (js 5 oH.nd (jl Q80 hr (bw (aK cy (pv 0) ah) (jk ag))))
   (aw (aF (b_ (cM bJ (jn 3 (jn 5 (bv (b9 (vv rfl) rfl B.max L2.wQ (jn 5 (bv (jl Q80 hr (bw (aK cy (pv 0) ah) (jk ag))) ag))) ag)))))))) bp)
   (av (bb (jt K hr (pv 4) ah) (aw (aF (b_ (cM bJ (jn 2 (bv (jl Q7e hr (jn 0 (jk (bw (jp K (pv 1) ah) ag)))) ag)))))) bp)
   (av (bb (jt K hr (pv 4) ah) (aw (aF (b_ (cM bJ (jn 2 ag))))) bp)
   (av (js 6 oH.nd (b_ (bv (jl Q7e hr (jn 0 (jk (jk ag)))) (bv (jl Q7e hr (jn 0 (jk (jk ag)))) ag))))
   (aw (aF (b_ (cM bJ (bv (jl Q7e hr (jn 0 (jk (jk ag)))) (jn 6 (iU (b_ (jn 3 (bw (aK cg (jp K (jp K (pv 3) ah) (jl Q7e hr (jn 0 (jk (jk ag))))) ah) ag))) ag)))))))))))))))),?_⟩
 have k0:=gF (c:=c) (k:=6) (m:=4) (by decide);have k1:=gu (c:=c) (k:=6) (m:=4) (by decide);unfold sQ at q;ac_rfl;refine⟨by decide,λp hp=>?_⟩;ac_rfl;refine⟨_,p,[6,7],rfl,ao.of aq,λv H1 s1 n1=>?_⟩;obtain⟨la,rfl,la0,la1⟩:=ak.iif.mp n1;have s0:=(ax hp (.lst [.int 6,.int 7])).trans s1;have la2:H la=none:=(ax hp _).free la0;ac_rfl;refine eK (by decide) ?_;ac_rfl;refine eK (by decide) ?_;ac_rfl;refine bC (λe=>?_) (λe=>?_)
 ·have e':aR c 4 6=0:=Ot e;rw[Ol e']at q;ac_rfl;refine⟨by show 3<=sizeLine;decide,λt ht=>?_⟩;refine q _ _ (s0.trans (ax ht _)) (ak.tup (fp:=[la]) (aj.cstr (aj.cint (aj.cany (f:=[la]) (ai.line (ax ht _ _ _ la1)) aj.nil))) (by simp) (λb m=>by rw[bn.mp m];exact la2) aq)
 have e0:¬ aR c 4 6=0:=Ou (Ow.mpr e);rw[Oh e0]at q;ac_rfl;refine bC (λe=>?_) (λe=>?_)
 ·have e':aR c 4 6=1:=Ot e;rw[Ol e']at q;ac_rfl;refine eK (by decide) ?_;ac_rfl;refine⟨by show 4<=sizeLine;decide,λm hm=>?_⟩;have s2:=ax hm (.lst [.int 1,.int 1000,.int (1+aR c 5 1000),.int 2]);ac_rfl;refine eK (by decide) ?_;refine bK (ao.of aq) (v:=.int (jq c)) ?_ ?_
  ·unfold jq;have c4:aR c 6 4=0\/aR c 6 4=1\/aR c 6 4=2\/aR c 6 4=3:=by omega
   rcases c4 with z|z|z|z<;>rw[z]<;>rfl
  ac_rfl;refine⟨by show 4<=sizeLine;decide,λt ht=>?_⟩;refine q _ _ (s0.trans (s2.trans (ax ht _))) (ak.tup (fp:=[la]) (aj.cstr (aj.cint (aj.cany (f:=[la]) (ai.line (ax ht _ _ _ (s2 _ _ la1))) (aj.cint aj.nil)))) (by simp) (λb m=>by rw[bn.mp m];exact la2) aq)
 have e1:¬ aR c 4 6=1:=Ou (Ow.mpr e);rw[Oh e1]at q;ac_rfl;refine bC (λe=>?_) (λe=>?_)
 ·have e':aR c 4 6=2:=Ot e;rw[Ol e']at q;ac_rfl;refine ot λH2 s2=>?_;ac_rfl;refine ot λH3 s3=>?_;ac_rfl;refine vq ?_;ac_rfl;refine⟨by show 4<=sizeLine;decide,λt ht=>?_⟩;refine q _ _ (s0.trans (s2.trans (s3.trans (ax ht _)))) (ak.tup (fp:=[]) (aj.cstr (aj.cint (aj.cint (aj.cint aj.nil)))) (by simp) (λb m=>by cases m) aq)
 have e2:¬ aR c 4 6=2:=Ou (Ow.mpr e);rw[Oh e2]at q;ac_rfl;refine bC (λe=>?_) (λe=>?_)
 ·have e':aR c 4 6=3:=Ot e;rw[Ol e']at q;ac_rfl;refine eK (by omega) ?_;ac_rfl;refine⟨by show 3<=sizeLine;decide,λt ht=>?_⟩;refine q _ _ (s0.trans (ax ht _)) (ak.tup (fp:=[la]) (aj.cstr (aj.cany (f:=[la]) (ai.line (ax ht _ _ _ la1)) (aj.cint aj.nil))) (by simp) (λb m=>by rw[bn.mp m];exact la2) aq)
 have e3:¬ aR c 4 6=3:=Ou (Ow.mpr e);rw[Oh e3]at q;ac_rfl;refine bC (λe=>?_) (λe=>?_)
 ·have e':aR c 4 6=4:=Ot e;rw[Ol e']at q;ac_rfl;refine⟨by show 2<=sizeLine;decide,λt ht=>?_⟩;refine q _ _ (s0.trans (ax ht _)) (ak.tup (fp:=[la]) (aj.cstr (aj.cany (f:=[la]) (ai.line (ax ht _ _ _ la1)) aj.nil)) (by simp) (λb m=>by rw[bn.mp m];exact la2) aq)
 have e4:¬ aR c 4 6=4:=Ou (Ow.mpr e);rw[Oh e4]at q;ac_rfl;refine eK (by decide) ?_;ac_rfl;refine eK (by decide) ?_;ac_rfl;refine⟨by show 2<=sizeLine;decide,λg hg=>?_⟩;have s2:=ax hg (.tup [.int (aR c 10 4),.int (aR c 11 4)]);ac_rfl;refine eK (by decide) ?_;ac_rfl;refine eK (by decide) ?_;ac_rfl;refine⟨by show 2<=sizeLine;decide,λu hu'=>?_⟩;have s3:=ax hu' (.tup [.int (aR c 3 4),.int ((aR c 3 4+1+aR c 13 3)%4)]);refine⟨by show 4<=sizeLine;decide,λt ht=>?_⟩;have s4:=ax ht (.tup [.str "call",.int (aR c 12 100),.ref g,.ref u]);refine q _ _ (s0.trans (s2.trans (s3.trans s4))) (ak.tup (fp:=[]) (aj.cstr (aj.cint (aj.cany (f:=[]) (ai.pair (s4 _ _ (s3 _ _ aq))) (aj.cany (f:=[]) (ai.pair (s4 _ _ aq)) aj.nil)))) (by simp) (λb m=>by cases m) aq)
def zR (k:Int):Rv:=((RD 7).map λ(j:Nat)=>aR k (50+(0+(j:Int))) 5 - 2)++[0,0]
theorem GD (k:Int):∃ a0 a1 a2 a3 a4 a5 a6,zR k=[a0,a1,a2,a3,a4,a5,a6,0,0]/\∀ x∈[a0,a1,a2,a3,a4,a5,a6],-2<=x/\x<=2:=by
 refine⟨_,_,_,_,_,_,_,rfl,λx hx=>?_⟩;have b:∀ j:Int,-2<=aR k j 5 - 2/\aR k j 5 - 2<=2:=λj=>by have h1:=gF (c:=k) (k:=j) (m:=5) (by decide);have h2:=gu (c:=k) (k:=j) (m:=5) (by decide);omega
 push_cast at hx;rcases hx with rfl|rfl|rfl|rfl|rfl|rfl|rfl<;>exact b _
theorem Cr.Rt.setNotes{c:Cr}(r:c.Rt){ls:Rw}(h2:ls.length<=2)(h:∀ l∈ls,l.length=9/\cO [7,8] l=true):({c with P_:=c.P_.set i ls}:Cr).Rt:=by
 refine⟨⟨r.nine.n9,r.nine.l9,r.nine.d9,λl hl=>?_,r.nine.n,r.nine.l,r.nine.d,by show(c.P_.set i ls).length<=100;rw[ON];exact r.nine.o⟩,?_⟩
 ·rcases R8 hl with z|rfl
  ·exact r.nine.o9 l z
  ·exact⟨by omega,λx hx=>(h x hx).1⟩
 ·have q:dI c.Qg c.P7 c.P9 c.P_=true:=r.r;show dI c.Qg c.P7 c.P9 (c.P_.set i ls)=true;simp only[dI,kD,gy,Of,Oj,OT,OJ,OS,id_eq,ON]at q ⊢;refine⟨q.1,q.2.1,q.2.2.1,λl hl=>?_⟩;rcases R8 hl with z|rfl
  ·exact q.2.2.2 l z
  ·exact⟨by omega,λx hx=>(h x hx).2⟩
theorem CF{xs:List α}{x:α}(h:i<xs.length):(xs.take i++[x])++xs.drop (i+1)=xs.set i x:=by rw[List.set_eq_take_append_cons_drop,Ol h,OW];rfl
theorem D1{k:Int}(h0:0<=k)(h:k.toNat<xs.length):bM xs (some (k+1)) none=xs.drop (k.toNat+1):=by rw[Ku (by omega) (by omega)];congr 1;omega
theorem BC {a0 a1 a2 a3 a4 a5 a6:Int}(h:∀ x∈[a0,a1,a2,a3,a4,a5,a6],-2<=x/\x<=2):cO [7,8] [a0,a1,a2,a3,a4,a5,a6,0,0]=true/\cO [1,2,3,4] [a0,0,0,0,0,a5,a6,a1,a2]=true:=by have h0:=h a0 (by simp);have h1:=h a1 (by simp);have h2:=h a2 (by simp);have h3:=h a3 (by simp);have h4:=h a4 (by simp);have h5:=h a5 (by simp);have h6:=h a6 (by simp);simp[cO,gb,cb];omega
inductive z_ (K:Fg)(vs:Ry)(H:Hp)(Q:VK)(E:XK):Prop|mk (pa na:Q2) (k:Int) (P8:Rv) (c:Cr):vs=[.ref pa,.int k,.ref na]->ii K H pa c->c.Rt->ao K H na (P8.map V.int)->1<=P8.length->P8.length<=3->(∀ m∈P8,0<=m/\m<100)->(∀ m∈cK c.P9,m∈P8)->(∀ ta c' H',ae H H'->ii K H' ta c'->c'.Rt->(∀ m∈cK c'.P9,m∈P8)->Q (.ref ta) H')->z_ K vs H Q E
include B Z Q7e in
theorem L9 (Q90:Fn P w K mg b8 "_law_deed_by" ["cell","count"] 4 (Aa K))(F:aN K "_law_changed" "_law_changed" xV f fd)(m:mg "_law_changed"=some (.ref f)):Fn P w K mg b8 "_law_changed" ["parts","cell","numbers"] 5 (z_ K):=by
 refine bQ F j3 m λ_ _ _ _ H vs Q E hr h=>?_;obtain⟨pa,na,k,P8,c,rfl,hP,rt,hna,n1,n3,hnb,hcl,q⟩:=h;refine⟨_,(m5.run (kJ (QS.mk (nV (pv 0) (HX K (n:=4) rfl (fB (jg 3 j3.nd) (fB (jg 4 j3.nd) (fB (jg 5 j3.nd) (fB (jg 6 j3.nd) lG)))))))
   (kJ (QS.mk (js 7 j3.nd (aK cg (aK cy (pv 1) ah) (b9 (dw K) rfl B.len L2.boot_len (jn 5 ag)))))
   (kJ (QS.mk (js 8 j3.nd (jp K (jC (bB.f j3 ["parts","cell","numbers","needs","leaves","deeds","notes","at","line","deed","k"] [false,false,false,false,false,false,false,false,false,false,true]) (hU rfl B.range (jk ag)) (λn=>(jg 10 n)) (aK jJ (jl Q7e hr (jn 1 (bw (jp K ah (pv 10)) (jk ag)))) ah)) (bu (jk (jk ag))))))
   (kJ (sU (jt K hr (aK cg (pv 1) ah) ah) (kJ (QS.mk (js 9 j3.nd (jl Q90 hr (bw (aK cy (pv 1) ah) (bv (b9 (dw K) rfl B.len L2.boot_len (jn 5 ag)) ag)))))
   (kJ (QS.mk (bb (jt K hr (jx K (pv 9) ah) bJ) (aw (js 9 j3.nd (b_ (cM bJ (bc (jx K (pv 2) (aK cg (jx K (pv 9) ah) (b9 (dw K) rfl B.len L2.boot_len (jn 2 ag)))) (bc (jx K (pv 9) ah) (bc (jx K (pv 9) ah) ag))))))) bp))
   (pE (QS.mk (aF (bu (jn 3 (jn 4 (bw (jp K (jp K (i4 (eE K) (pv 5) iX (iW (pv 7))) (bu (jn 9 ag))) (i4 (eE K) (pv 5) (iW (jp K (pv 7) ah)) iX)) (jn 6 ag)))))))))) tJ)
   (kJ (sU (jt K hr (aK cg (pv 1) ah) ah) (pE (vO (ku (jR (QE.mk (pv 3)) (jR (QE.mk (pv 4)) (jR (QE.mk (pv 5)) (vP (ix (tf K) (ix (tf K) (QE.mk (i4 (eE K) (pv 6) iX (iW (pv 7)))) (ku (sY (ku (jR (QE.mk (pv 8)) kC)) kC))) (QE.mk (i4 (eE K) (pv 6) (iW (jp K (pv 7) ah)) iX))) kC))))))) tJ)
   (kJ (sU (jt K hr (aK cg (pv 1) ah) ah) (pE (vO (ku (jR (QE.mk (pv 3)) (sY (ku (sY (ku (pw (jh (iA K) (QE.mk (pv 8)) (QE.mk ah)) (iM (QE.mk ah) (iM (QE.mk ah) (iM (QE.mk ah) (iM (QE.mk ah) (pw (jh (iA K) (QE.mk (pv 8)) (QE.mk ah)) (pw (jh (iA K) (QE.mk (pv 8)) (QE.mk ah)) (pw (jh (iA K) (QE.mk (pv 8)) (QE.mk ah)) (pw (jh (iA K) (QE.mk (pv 8)) (QE.mk ah)) kC)))))))))) kC)) (jR (QE.mk (pv 5)) (jR (QE.mk (pv 6)) kC))))))) tJ)
   (kJ (sU (jt K hr (aK cg (pv 1) ah) ah) (pE (vO (ku (vP (ix (tf K) (ku (sY (ku (vP (ix jJ (QE.mk (dG dL ah)) (ix cg (ix cy (QE.mk (pv 1)) (QE.mk ah)) (QE.mk ah))) (iM (QE.mk ah) (iM (QE.mk ah) (iM (QE.mk ah) (iM (QE.mk ah) (iM (QE.mk ah) (iM (QE.mk ah) (iM (QE.mk ah) (iM (QE.mk ah) kC)))))))))) kC)) (QE.mk (i4 (eE K) (pv 3) (iW ah) iX))) (jR (QE.mk (pv 4)) (jR (QE.mk (pv 5)) (jR (QE.mk (pv 6)) kC))))))) tJ)
   (pE (QS.mk (aF (pv 0)))))))))))),?_⟩
 obtain⟨x1,x2,b3,b4,Qy,QI,hpa,r1,r2,e3,d3,e4,n4⟩:=id hP;have ld:=d3.1;have ln:=n4.1;obtain⟨nn2,_,⟨d1,d8⟩,nl,_⟩:=rt.parts;left;nofun;refine⟨pa,_,rfl,ao.of hpa,rfl,⟨_,_,rfl,?_⟩⟩;nomatch _,_,rfl;nomatch _,_,rfl;nomatch _,_,rfl;exists rfl;left;nofun;refine dF (.inl (ao.of e3)) ?_;have np:0<(Qy.length:Int):=by omega
 have b0:=OU (k/6) (show(Qy.length:Int)≠0 by omega);have b1:=OQ (k/6) np;nofun;generalize k/6%(Qy.length:Int)=at' at b0 b1 ⊢;left;nofun;refine hJ (by omega) (by omega) ?_;refine cG kO (((RD 7).map λ(j:Nat)=>aR k (50+(0+(j:Int))) 5 - 2).map D.int) (by simp) (br (by decide)) (λj x d H1 R hj hd s1 hx hR=>?_) (λv1 H1 s1 nw=>?_)
 ·subst hx;rw[aM,aM,O1 (show j<7 from hj)]at hd;cases hd;nofun;refine eK (by decide) ?_;nofun;exact hR _ _ (ae.refl _) ak.int
 obtain⟨la,rfl,la0,QF⟩:=ak.iif.mp nw;nofun;refine ff λz2 H2 s2 g2=>?_;nofun;refine dW (s2 _ _ QF) g2 ((by right)) λlb hlb=>?_;have s3:=ax hlb (.lst (((RD 7).map λ(j:Nat)=>aR k (50+(0+(j:Int))) 5 - 2).map V.int++[V.int 0,.int 0]));have g3:(upd H2 lb (.lst (((RD 7).map λ(j:Nat)=>aR k (50+(0+(j:Int))) 5 - 2).map V.int++[V.int 0,.int 0]))) lb=some (.lst ((zR k).map V.int)):=by rw[aq];unfold zR;rw[OF];rfl
 generalize upd H2 lb (.lst (((RD 7).map λ(j:Nat)=>aR k (50+(0+(j:Int))) 5 - 2).map V.int++[V.int 0,.int 0]))=H3 at*;have s03:=s1.trans (s2.trans s3);obtain⟨a0,a1,a2,a3,a4,a5,a6,ech,hch⟩:=GD k;rw[ech]at g3;nofun;left;nofun;have hna3:=s03.seq hna;refine bC (λe=>?_) (λe=>?_)
 ·nofun;left;nofun;refine dF (.inl (ao.of (s03 _ _ e3))) ?_;nofun;refine⟨k/48,_,rfl,by omega,λdv H4 u1 nd=>?_⟩;rw[<-Ko]at nd;have dok:=IX (c:=k/48) (count:=(Qy.length:Int)) (by omega);have d9:=LB (k/48) (Qy.length:Int);generalize lY (k/48) (Qy.length:Int)=d at*;rw[<-ld]at dok;obtain⟨dfp,dR,_,_⟩:=nd;have dr:=tK (tP d9) dR;have hna4:=u1.seq hna3;nofun;with_reducible refine jH (λσ H'=>∃ dv d,A6 (σ=[some (.ref pa),some (.int k),some (.ref na),some x1,some x2,some (.ref b3),some (.ref b4),some (.int at'),some (.ref lb),some dv]) (ae H4 H') (iI H' (cT d) dv) (bI (c.P9.length:Int) d=true) (eU d) (∀ m,fR d=some m->m∈P8)) (λNX hN=>?_) (λσ H5 hM=>?_)
  ·obtain⟨t,xs,rfl,ht⟩:=tG dr;nofun;refine aP (aB.of ht) db ?_;nofun;have wc:decide (dM d="call")=(fR d).isSome:=by cases d<;>first|rfl|(unfold dM fR;decide+kernel)
   rw[wc];cases hcb:fR d with
   |none=>dsimp only[R_];nofun;exact hN _ _ ⟨.ref t,d,rfl,ae.refl _,dr,dok,d9,λm hm=>by rw[hcb]at hm;cases hm⟩|some m0=>cases d with
    |call m g0 g1 t0 t1=>
     dsimp only[R_];obtain⟨t',zs,et,ht',px⟩:=fQ dr;cases et;obtain⟨z0,r3,rfl,q0,px⟩:=bR px;obtain⟨z1,r4,rfl,q1,px⟩:=bR px;obtain⟨z2,r5,rfl,q2,px⟩:=bR px;obtain⟨z3,r6,rfl,q3,px⟩:=bR px;cases eY q1;cases gz q0;nofun;refine aP (aB.of ht') (v:=.int m) (bi (j:=1) rfl) ?_;nofun;refine dF (.inl hna4) ?_;rw[aT];have np':0<(P8.length:Int):=by omega
     have e0:=OU m (show(P8.length:Int)≠0 by omega);have e1:=OQ m np';nofun;generalize m%(P8.length:Int)=j at e0 e1 ⊢;have hj:j.toNat<P8.length:=by omega
     refine bK hna4 (v:=.int P8[j.toNat]) (ml e0 (by rw[aM,Om hj];rfl)) ?_;have mm:=OO hj;have mb:=hnb _ mm;generalize P8[j.toNat]=m2 at mm mb ⊢;nofun;refine aP (aB.of ht') (v:=z2) (bi (j:=2) rfl) ?_;nofun;refine aP (aB.of ht') (v:=z3) (bi (j:=3) rfl) ?_;nofun;refine mX λt9 H9 u9 k9=>?_;nofun;refine hN _ _ ⟨.ref t9,.call m2 g0 g1 t0 t1,rfl,u9,Ir k9 (by simp) ⟨.inr (.inl ⟨_,rfl,rfl⟩),.inl ⟨_,rfl,rfl⟩,q2.sq u9.sq,q3.sq u9.sq,trivial⟩,?_,d9,λm' hm'=>by cases hm';exact mm⟩;simp only[bI,cb,Of,Oj]at dok ⊢;exact⟨dok.1,⟨by omega,by omega⟩,dok.2.2⟩|set _ _=>cases hcb|part _ _ _=>cases hcb|draw _ _ _=>cases hcb|turn _ _=>cases hcb|hold _=>cases hcb
  clear dR dr dok d9;obtain⟨dv,d,rfl,u2,dr,dok,d9,dcl⟩:=hM;have s05:=s03.trans (u1.trans u2);nofun;refine lq (ao.of (s05 _ _ e3)) λp1 hp1=>?_;rw[show bM Qy none (some at')=Qy.take at'.toNat from En b0 (by omega)];have u3:=ax hp1 (.lst (Qy.take at'.toNat));have k1:(upd H5 p1 (.lst (Qy.take at'.toNat))) p1=some (.lst (Qy.take at'.toNat)):=aq;generalize upd H5 p1 (.lst (Qy.take at'.toNat))=H6 at*;nofun;refine ff λp3 H7 u4 k3=>?_;nofun;refine dW (u4 _ _ k1) k3 (br (by simp;omega)) λp4 hp4=>?_;have u5:=ax hp4 (.lst (Qy.take at'.toNat++[dv]));have k4:(upd H7 p4 (.lst (Qy.take at'.toNat++[dv]))) p4=some (.lst (Qy.take at'.toNat++[dv])):=aq;generalize upd H7 p4 (.lst (Qy.take at'.toNat++[dv]))=H8 at*;have s58:=u3.trans (u4.trans u5);nofun;refine lq (ao.of ((s05.trans s58) _ _ e3)) λp5 hp5=>?_;rw[D1 b0 (by omega)];have u6:=ax hp5 (.lst (Qy.drop (at'.toNat+1)));have k5:(upd H8 p5 (.lst (Qy.drop (at'.toNat+1)))) p5=some (.lst (Qy.drop (at'.toNat+1))):=aq;generalize upd H8 p5 (.lst (Qy.drop (at'.toNat+1)))=H9 at*;nofun;refine dW (u6 _ _ k4) k5 (br (by simp;omega)) λp6 hp6=>?_;rw[CF (by omega)];have u7:=ax hp6 (.lst (Qy.set at'.toNat dv));have k6:(upd H9 p6 (.lst (Qy.set at'.toNat dv))) p6=some (.lst (Qy.set at'.toNat dv)):=aq;generalize upd H9 p6 (.lst (Qy.set at'.toNat dv))=H10 at*;nofun;refine⟨(by right),λta hta=>?_⟩;have u8:=ax hta (.lst [x1,x2,V.ref p6,.ref b4]);have k7:(upd H10 ta (.lst [x1,x2,V.ref p6,.ref b4])) ta=some (.lst [x1,x2,V.ref p6,.ref b4]):=aq;generalize upd H10 ta (.lst [x1,x2,V.ref p6,.ref b4])=Hz at*;have s5z:=s58.trans (u6.trans (u7.trans u8));have sz:=s05.trans s5z;refine q ta {c with P9:=c.P9.set at'.toNat d} _ sz ⟨x1,x2,p6,b4,_,QI,k7,al.same sz _ r1,al.same sz _ r2,u8 _ _ k6,R2.set (R2.mono d3 λ_ _ z=>z.sq sz.sq) _ (dr.sq s5z.sq),sz _ _ e4,R2.mono n4 λ_ _ z=>al.same sz _ z⟩ (rt.setDeed dok d9) λm hm=>?_;unfold cK at hm;obtain⟨d',hd',em⟩:=OY.mp hm;rcases R8 hd' with z|rfl
  ·exact hcl m (OY.mpr ⟨d',z,em⟩)
  ·exact dcl m em
 nofun;left;nofun;refine bC (λe=>?_) (λe=>?_)
 ·nofun;refine lq (ao.of (s03 _ _ e4)) λp1 hp1=>?_;rw[show bM QI none (some at')=QI.take at'.toNat from En b0 (by omega)];have u1:=ax hp1 (.lst (QI.take at'.toNat));have k1:(upd H3 p1 (.lst (QI.take at'.toNat))) p1=some (.lst (QI.take at'.toNat)):=aq;generalize upd H3 p1 (.lst (QI.take at'.toNat))=H4 at*;nofun;refine ff λp2 H5 u2 k2=>?_;nofun;refine ff λp3 H6 u3 k3=>?_;nofun;refine dW ((u2.trans u3) _ _ k1) k3 (br (by simp;omega)) λp4 hp4=>?_;have u4:=ax hp4 (.lst (QI.take at'.toNat++[.ref p2]));have k4:(upd H6 p4 (.lst (QI.take at'.toNat++[.ref p2]))) p4=some (.lst (QI.take at'.toNat++[.ref p2])):=aq;generalize upd H6 p4 (.lst (QI.take at'.toNat++[.ref p2]))=H7 at*;have s37:=u1.trans (u2.trans (u3.trans u4));nofun;refine lq (ao.of ((s03.trans s37) _ _ e4)) λp5 hp5=>?_;rw[D1 b0 (by omega)];have u5:=ax hp5 (.lst (QI.drop (at'.toNat+1)));have k5:(upd H7 p5 (.lst (QI.drop (at'.toNat+1)))) p5=some (.lst (QI.drop (at'.toNat+1))):=aq;generalize upd H7 p5 (.lst (QI.drop (at'.toNat+1)))=H8 at*;nofun;refine dW (u5 _ _ k4) k5 (br (by simp;omega)) λp6 hp6=>?_;rw[CF (by omega)];have u6:=ax hp6 (.lst (QI.set at'.toNat (.ref p2)));have k6:(upd H8 p6 (.lst (QI.set at'.toNat (.ref p2)))) p6=some (.lst (QI.set at'.toNat (.ref p2))):=aq;generalize upd H8 p6 (.lst (QI.set at'.toNat (.ref p2)))=H9 at*;nofun;refine⟨(by right),λta hta=>?_⟩;have u7:=ax hta (.lst [x1,x2,V.ref b3,.ref p6]);have k7:(upd H9 ta (.lst [x1,x2,V.ref b3,.ref p6])) ta=some (.lst [x1,x2,V.ref b3,.ref p6]):=aq;generalize upd H9 ta (.lst [x1,x2,V.ref b3,.ref p6])=Hz at*;have s4z:=u5.trans (u6.trans u7);have sz:=s03.trans (s37.trans s4z);have t2:=(u3.trans (u4.trans s4z)) _ _ k2;have tl:=(s37.trans s4z) _ _ g3;refine q ta {c with P_:=c.P_.set at'.toNat [[a0,a1,a2,a3,a4,a5,a6,0,0]]} _ sz ⟨x1,x2,b3,p6,Qy,_,k7,al.same sz _ r1,al.same sz _ r2,sz _ _ e3,R2.mono d3 λ_ _ z=>z.sq sz.sq,u7 _ _ k6,(R2.mono n4 λ_ _ z=>al.same sz _ z).set _ (lQ (bs:=[lb]) t2 rfl (ou tl))⟩ (rt.setNotes (by simp) λl hl=>?_) hcl;rw[bn.mp hl];exact⟨rfl,(BC hch).1⟩
 nofun;left;nofun;refine bC (λe=>?_) (λe=>?_)
 ·nofun;refine bK (ao.of g3) (v:=.int a0) db ?_;nofun;refine bK (ao.of g3) (v:=.int a5) (bi (j:=5) rfl) ?_;nofun;refine bK (ao.of g3) (v:=.int a6) (bi (j:=6) rfl) ?_;nofun;refine bK (ao.of g3) (v:=.int a1) (bi (j:=1) rfl) ?_;nofun;refine bK (ao.of g3) (v:=.int a2) (bi (j:=2) rfl) ?_;nofun;refine ff λp1 H4 u1 k1=>?_;nofun;refine ff λp2 H5 u2 k2=>?_;nofun;refine⟨(by right),λta hta=>?_⟩;have u7:=ax hta (.lst [x1,V.ref p2,.ref b3,.ref b4]);have k7:(upd H5 ta (.lst [x1,V.ref p2,.ref b3,.ref b4])) ta=some (.lst [x1,V.ref p2,.ref b3,.ref b4]):=aq;generalize upd H5 ta (.lst [x1,V.ref p2,.ref b3,.ref b4])=Hz at*;have sz:=s03.trans (u1.trans (u2.trans u7));refine q ta {c with P7:=[[a0,0,0,0,0,a5,a6,a1,a2]]} _ sz ⟨x1,.ref p2,b3,b4,Qy,QI,k7,al.same sz _ r1,lQ (bs:=[p1]) (u7 _ _ k2) rfl (ou ((u2.trans u7) _ _ k1)),sz _ _ e3,R2.mono d3 λ_ _ z=>z.sq sz.sq,sz _ _ e4,R2.mono n4 λ_ _ z=>al.same sz _ z⟩ (rt.oath nn2 rt.lines.1 (by simp) λl hl=>?_) hcl;rw[bn.mp hl];exact⟨rfl,(BC hch).2⟩
 nofun;left;nofun;refine bC (λe=>?_) (λe=>?_)
 ·have c0:=OU (k/6) (show(5:Int)≠0 by decide);have c1:=OQ (k/6) (show(0:Int)<5 by decide);have r13:=al.same s03 _ r1;unfold bo al at r13;obtain⟨nb,xs,rfl,hx,hxr⟩:=r13;nofun;refine ff λp1 H4 u1 k1=>?_;nofun;refine ff λp2 H5 u2 k2=>?_;nofun;refine lq ((u1.trans u2).seq hx) λp3 hp3=>?_;rw[Km (by decide)];have u3:=ax hp3 (.lst (xs.drop (1:Int).toNat));have k3:(upd H5 p3 (.lst (xs.drop (1:Int).toNat))) p3=some (.lst (xs.drop 1)):=aq;generalize upd H5 p3 (.lst (xs.drop (1:Int).toNat))=H6 at*;have lx:=hxr.length;rw[aT]at lx;nofun;refine dW (u3 _ _ k2) k3 (br (by simp;omega)) λp4 hp4=>?_;have u4:=ax hp4 (.lst ([V.ref p1]++xs.drop 1));have k4:(upd H6 p4 (.lst ([V.ref p1]++xs.drop 1))) p4=some (.lst (V.ref p1::xs.drop 1)):=aq;generalize upd H6 p4 (.lst ([V.ref p1]++xs.drop 1))=H7 at*;nofun;refine⟨(by right),λta hta=>?_⟩;have u7:=ax hta (.lst [V.ref p4,x2,.ref b3,.ref b4]);have k7:(upd H7 ta (.lst [V.ref p4,x2,.ref b3,.ref b4])) ta=some (.lst [V.ref p4,x2,.ref b3,.ref b4]):=aq;generalize upd H7 ta (.lst [V.ref p4,x2,.ref b3,.ref b4])=Hz at*;have s2z:=u2.trans (u3.trans (u4.trans u7));have sz3:=u1.trans s2z;have sz:=s03.trans sz3;have dr:∀{ds:List D}{vs:Ry},au K Hz ds vs->au K Hz (ds.drop 1) (vs.drop 1):=λ{ds vs} h=>by cases ds with
   |nil=>unfold au at h;subst h;unfold List.drop au;rfl|cons d ds=>unfold au at h;obtain⟨v,r,rfl,_,h2⟩:=h;exact h2
  generalize hv:-1 - k/6%5=v0 at*;refine q ta {c with Qg:=[v0,0,0,0,0,1,0,0,0]::c.Qg.drop 1} _ sz ⟨.ref p4,x2,b3,b4,Qy,QI,k7,?_,al.same sz _ r2,sz _ _ e3,R2.mono d3 λ_ _ z=>z.sq sz.sq,sz _ _ e4,R2.mono n4 λ_ _ z=>al.same sz _ z⟩ (rt.oath (by simp;omega) (λl hl=>?_) (rt.parts.2.1) rt.lines.2) hcl
  ·unfold bo al;nomatch p4,_,rfl,ao.of (u7 _ _ k4);rw[bX];unfold au;nomatch _,_,rfl,fO.mpr ⟨p1,rfl,ao.of (s2z _ _ k1)⟩;rw[List.map_drop];exact dr (au.same sz3 _ hxr)
  ·rcases Oe.mp hl with rfl|hl
   ·exact⟨rfl,by simp[cO,gb,cb];omega⟩
   ·exact rt.lines.1 l (List.mem_of_mem_drop hl)
 nofun;exact q pa c H3 s03 (hP.same s03) rt hcl
inductive zY (K:Fg)(C:Nat->Q2)(vs:Ry)(H:Hp)(Q:VK)(E:XK):Prop|mk (ha la va gt ra:Q2) (n a0 a1:Int) (ks:Rv) (cr:Int->Cr) (ws:Rv) (fp:Rz) (ins:Rv):vs=[.ref ha,.int n,.ref gt,.ref ra]->cc (C 6) (C 0) H ha la va ks cr ws fp->(ao K H gt [.int a0,.int a1]\/aB K H gt [.int a0,.int a1])->ao K H ra (ins.map V.int)->n.natAbs<fE->n∈ks->(∀ rv H',ae H H'->(cL (cr n).Qg (ij a0 a1)≠none/\rv=.non\/cL (cr n).Qg (ij a0 a1)=none/\∃ r ka ia sa Qj Qq nn,rv=.ref r/\aA (C 8) (C 7) (C 0) H' r ka ia sa nn cr Qj (du cr ⟨[],ins,0,none⟩ (eX n a0 a1) []) Qq/\nn.Perm ks/\(∀ b∈aJ r ia sa Qj,H b=none)/\∀ b∈ka::Qq,H b=none)->Q rv H')->zY K C vs H Q E
theorem GM{C:Q2}{sp:Sp}{t:TA}{σ:L2.St}(h:t σ H λvs H1=>∀ y dx,H1 y=none->H1 dx=none->dx≠y->sp (.ref y::vs) (upd (upd H1 dx (.own y)) y (.ins C dx [])) (λv H2=>v=.non/\Q (.ref y) H2) E):mf C sp [] E t σ H Q:=by
 have e:(λ(vs:Ry) (H1:Hp)=>∀ y dx,H1 y=none->H1 dx=none->dx≠y->sp (.ref y::(vs++[])) (upd (upd H1 dx (.own y)) y (.ins C dx [])) (λv H2=>v=.non/\Q (.ref y) H2) E)
   =λvs H1=>∀ y dx,H1 y=none->H1 dx=none->dx≠y->sp (.ref y::vs) (upd (upd H1 dx (.own y)) y (.ins C dx [])) (λv H2=>v=.non/\Q (.ref y) H2) E:=by funext vs H1;rw[OP]
 show t σ H λvs H1=>∀ y dx,H1 y=none->H1 dx=none->dx≠y->sp (.ref y::(vs++[])) (upd (upd H1 dx (.own y)) y (.ins C dx [])) (λv H2=>v=.non/\Q (.ref y) H2) E;rw[e];exact h
theorem EA(hy:H y=none)(hd:H dx=none):ae H (upd (upd H dx (.own y)) y (.ins c dx [])):=λb o e=>by rw[aC (cj e hy),aC (cj e hd)];exact e
theorem qN{H4:Hp}{own:Rz}(hy:H y=none)(hd:H dx=none)(m:a_ [y] (upd (upd H dx (.own y)) y (.ins c dx [])) own H4):ae H H4/\∀ b∈own,H b=none:=by
 have sm:=EA (c:=c) hy hd;refine⟨λb o e=>m.1 b o (λz=>by rw[bn.mp z,hy]at e;cases e) (sm b o e),λb hb=>?_⟩;rcases m.2.1 b hb with z|z
 ·rw[bn.mp z];exact hy
 ·exact sm.free z
include B Z in
theorem LV (M_Run:uV P w K mg b8 "Run" (C 8) ["self","hall","number","given","inputs"] 8 (Ay K C))(F:aN K "_law_run_by" "_law_run_by" xD f fd)(m:mg "_law_run_by"=some (.ref f)):Fn P w K mg b8 "_law_run_by" ["hall","number","given","rest"] 10 (zY K C):=by
 refine bQ F LK m λ_ _ _ _ H vs Q E hr h=>?_;obtain⟨ha,la,va,gt,ra,n,a0,a1,ks,cr,ws,fp,ins,rfl,hA,hg,hr',hn,nm,q⟩:=h;nomatch _,(aw (Ci rfl rfl rfl (Di (HZ (Gy M_Run hr rfl (jn 0 (jn 1 (jn 2 (jn 3 ag))))))) (CT (tb:=λ_ _=>gJ (tC .non)) Z.Ra rfl Z.Ri (λ_ _ _ _=>(aw (aF gk))) Cj)));refine Bx ?_;nofun;refine GM ?_;nofun;intro y dx y0 dx0 nd;have sm:=EA (c:=(C 8)) y0 dx0;refine⟨y,dx,ha,la,va,gt,ra,n,a0,a1,ks,cr,ws,fp,ins,rfl,aq,hA.same sm,hg.elim (λz=>.inl (sm.seq z)) (λz=>.inr (sm.tup z)),sm.seq hr',hn,λz=>OE nm z,λ_ z H' o' a=>?_,λ_ z H' ka ia sa Qj Qq nn m A' pm kf=>⟨rfl,?_⟩⟩
 ·nomatch (C 5),_,rfl,Z.Ra;rw[Ol (by simp)];show gJ _ _ _ _;nofun;exact q _ _ (λb o e=>o' b o (λw=>by rw[bn.mp w,y0]at e;cases e) (sm b o e)) (.inl ⟨z,rfl⟩)
 ·obtain⟨s',ow⟩:=qN y0 dx0 m;exact q _ H' s' (.inr ⟨z,y,ka,ia,sa,Qj,Qq,nn,rfl,A',pm,ow,λb hb=>sm.free (kf b hb)⟩)
inductive zZ (K:Fg)(C:Nat->Q2)(vs:Ry)(H:Hp)(Q:VK)(E:XK):Prop|mk (ha la va:Q2) (n:Int) (ks:Rv) (cr:Int->Cr) (ws:Rv) (fp:Rz):vs=[.ref ha,.int n]->cc (C 6) (C 0) H ha la va ks cr ws fp->n∈ks->n.natAbs<fE->(∀ k∈cK (cr n).P9,k∈ks)->(∀ H' ws',aX [va] H H'->cc (C 6) (C 0) H' ha la va ks cr ws' fp->(∀ m,m∈ws'↔m∈ws\/(m=n/\mE ((cr n).gs cr)))->Q (.bl true) H')->zZ K C vs H Q E
include B Z in
theorem LU (Q47:bF (cI P w) P w K mg b8 (C 6) "seek" ["self","number"] 8 (AK K C))(F:aN K "_law_sought" "_law_sought" xE f fd)(m:mg "_law_sought"=some (.ref f)):Fn P w K mg b8 "_law_sought" ["hall","number"] 9 (zZ K C):=by
 refine bQ F LL m λ_ _ _ _ H vs Q E hr h=>?_;obtain⟨ha,la,va,n,ks,cr,ws,fp,rfl,hA,hm,hn,hcl,q⟩:=h;refine⟨_,(av (Ci rfl rfl rfl (Di (JS (H_ Q47 Z.Qx hr (pv 0) (jn 1 ag)))) (CT (tb:=λ_ _=>gJ (tC (.bl false))) Z.Rj rfl Z.Rh (λ_ _ _ _=>(aw (aF gZ))) Cj))
   (aw (aF gZ))),?_⟩
 obtain⟨dx,hh⟩:=hA.ins;left;refine Bx ?_;nofun;exists ha,dx,_,rfl,hh,gX;refine⟨ha,la,va,n,ks,cr,ws,fp,rfl,hA,hn,λz=>OE hm z,λ_ ⟨m,mm,mk⟩=>OE (hcl m mm) mk,λ_ _ v H' ws' o' hA' hws' _=>?_⟩;nofun;exact q _ ws' o' hA' hws'
inductive zX (K:Fg)(C:Nat->Q2)(vs:Ry)(H:Hp)(Q:VK)(E:XK):Prop|mk (tt r ka ia sa ca:Q2) (ks nn:Rv) (cr:Int->Cr) (Qj:List Fa) (s:Rs) (Qq:Rz) (kvs:List (bj×V)) (f:Fm) (st:List Fm) (w:Str) (i:Nat):vs=[.ref tt,.ref r,.ref ca]->H tt=some (.tup (brk w f i))->aA (C 8) (C 7) (C 0) H r ka ia sa nn cr Qj s Qq->s.st.length<=20->s.st=f::st->fj cr nn f w i->iP nn cr f->H ca=some (.dK kvs)->cD (λm v=>∃ pa,v=.ref pa/\ii K H pa (cr m)) kvs ks->(∀ m∈nn,m∈ks)->(∀ m∈ks,(cr m).Rt)->(∀ H',ae H H'->Q (.bl true) H')->zX K C vs H Q E
include B Z in
theorem JP (Q61:bF bH P w K mg b8 (C 8) "frames" ["self"] 1 (Aw K C))(F:aN K "_law_true" "_law_true" wY f fd)(m:mg "_law_true"=some (.ref f)):Fn P w K mg b8 "_law_true" ["told","run","crafts"] 2 (zX K C):=by
 refine bQ F xo m λ_ _ _ _ H vs Q E hr h=>?_;obtain⟨tt,r,ka,ia,sa,ca,ks,nn,cr,Qj,s,Qq,kvs,f,st,w,i,rfl,htt,R1,l20,hst,hb,wf,hca,hk,hks,hrt,q⟩:=h;refine⟨_,(av (bb (PW.pt (jF (jc (iz K hr) (b9 (dw K) rfl B.len L2.boot_len (jn 0 ag)) ah) (jF (lF (oG (bS hr) (jx K (pv 0) ah) (pv 2))) (nW (jc (iz K hr) (i4 (eE K) (io Q61 Z.Qk hr bZ (pv 1)) (iW (dG dL ah)) iX) (bu (iU (b_ (bc (jx K (pv 0) ah) (bc (jx K (pv 0) ah) ag))) ag))))))) (aw (aF gZ)) bp)
   (av (Ho (i:=3) (j:=4) rfl xo.nd rfl rfl (by decide) rfl rfl (bc (jU (bS hr) (pv 2) (jx K (pv 0) ah) (λ_ _=>rfl)) (bc (jx K (pv 0) ah) ag)) (by rfl))
   (av (bb (jt K hr (jx K (pv 0) ah) bJ) (aw (aF (dY (jE K hr (pv 4) (b9 (dw K) rfl B.len L2.boot_len (bc (jx K (pv 3) ah) ag))) (eR (tV jD ko ah (jx K (pv 0) ah) (b9 (dw K) rfl B.len L2.boot_len (bc (jx K (pv 3) ah) ag))))))) bp)
   (av (bb (lE (Dx jD ko ah (pv 4) (b9 (dw K) rfl B.len L2.boot_len (bc (jx K (pv 3) ah) ag)))) (aw (aF gZ)) bp)
   (av (js 5 xo.nd (jx K (jx K (pv 3) ah) (pv 4)))
   (av (bb (jt K hr (jx K (pv 0) ah) bJ) (aw (aF (tV jD ko ah (jx K (pv 0) ah) (b9 (dw K) rfl B.len L2.boot_len (bc (jx K (jx K (pv 3) ah) (pv 4)) ag))))) bp)
   (av (bb (jt K hr (jx K (pv 0) ah) bJ) (aw (aF (dY (jE K hr (jx K (pv 5) ah) bJ) (eR (jE K hr (jx K (pv 0) ah) ah))))) bp)
   (aw (aF (dY (jE K hr (jx K (pv 0) ah) bJ) (dY (jE K hr (jx K (pv 5) ah) bJ) (eR (tV jD ko ah (jx K (pv 0) ah) (b9 (dw K) rfl B.len L2.boot_len (bc (jx K (jU (bS hr) (pv 2) (jx K (pv 5) ah) (λ_ _=>rfl)) ah) ag))))))))))))))),?_⟩
 have htt:H tt=some (.tup [.str "broken",.str w,.int f.n,.int f.p,.int (i:Int)]):=htt;obtain⟨dr,evr,hr',_⟩:=R1.ins;have mk:=hks _ wf.m;obtain⟨v,ev,pa,rfl,hP⟩:=hk.2.2 f.n mk;have rt:=hrt _ mk;left;nofun;refine dF (.inr (aB.of htt)) ?_;nofun;rw[Oh (by simp)];nofun;refine aP (aB.of htt) (v:=.int f.n) (bi (j:=2) rfl) ?_;nofun;nomatch ca,_,rfl,bh.k (k:=.inl f.n) hca;rw[ev];dsimp only[R_,Bool.not_true];nofun;exists r,dr,_,rfl,hr',dm;refine⟨r,ka,ia,sa,nn,cr,Qj,s,Qq,rfl,R1,l20,λfv H1 s1 n1=>?_⟩;rw[hst,List.reverse_cons,OF]at n1;obtain⟨fa,fvs,fr,rfl,fa0,hfa,hfr,_⟩:=ak.lso n1;obtain⟨ys,y,rfl,hy⟩:=DQ (aj.reps (K:=K) _ hfr);nofun;refine lq (ao.of hfa) λp2 hp2=>?_;rw[GT];have s2:=ax hp2 (.lst [y]);have g2:(upd H1 p2 (.lst [y])) p2=some (.lst [y]):=aq;generalize upd H1 p2 (.lst [y])=H2 at*;have s02:=s1.trans s2;nofun;refine aP (aB.of (s02 _ _ htt)) (v:=.int f.n) (bi (j:=2) rfl) ?_;nofun;refine aP (aB.of (s02 _ _ htt)) (v:=.int f.p) (bi (j:=3) rfl) ?_;nofun;refine mX λt3 H3 s3 g3=>?_;nofun;refine ff λl4 H4 s4 g4=>?_;nofun;have s24:=s3.trans s4;have s04:=s02.trans s24;refine CG (d:=.lst [rQ f]) (by unfold al;exact⟨p2,[y],rfl,ao.of (s24 _ _ g2),by unfold au;exact⟨y,[],rfl,al.same (s2.trans s24) _ hy,by unfold au;rfl⟩⟩) (by unfold al;exact⟨l4,_,rfl,ao.of g4,by unfold au;exact⟨_,[],rfl,by unfold rQ al;exact⟨t3,_,rfl,aB.of (s4 _ _ g3),by simp[au,al]⟩,by unfold au;rfl⟩⟩) (by unfold rQ;simp[dg,df]) ?_;nofun;left;nofun;refine aP (aB.of (s04 _ _ htt)) (v:=.int f.n) (bi (j:=2) rfl) ?_;nofun;refine⟨ca,.ref pa,rfl,by rw[<-ev];exact bh.k (k:=.inl f.n) (s04 _ _ hca),?_⟩;nofun;refine aP (aB.of (s04 _ _ htt)) (v:=.int f.p) (bi (j:=3) rfl) ?_;nofun;left;nofun;refine aP (aB.of (s04 _ _ htt)) (v:=.str w) (bi (j:=1) rfl) ?_;nofun;obtain⟨x1,x2,b3,b4,Qy,QI,hpa,r1,r2,e3,d3,e4,n4⟩:=hP.same s04;have ld:=d3.1;have ln:=n4.1;have p0:=wf.p0;have pn:=wf.pn;have i0:(0:Int)<=(i:Int):=by omega
 have nl:=rt.parts.2.2.2.1;have t4:=aB.of (K:=K) (s04 _ _ htt);rcases hb.inv with⟨rfl,hp,hi⟩|⟨wl,hb⟩
 ·rw[Og rfl];nofun;refine bK (ao.of hpa) (v:=.ref b3) (bi (j:=2) rfl) ?_;nofun;refine dF (.inl (ao.of e3)) ?_;nofun;rw[Og (show f.p=(Qy.length:Int)by omega)];nofun;refine aP t4 (v:=.int (i:Int)) (bi (j:=4) rfl) ?_;nofun;rw[Og i0];nofun;obtain⟨b,xs,rfl,hx,lx⟩:=xj r2;refine bK (ao.of hpa) (v:=.ref b) (bi (j:=1) rfl) ?_;nofun;refine dF (.inl hx) ?_;nofun;rw[Og (show(i:Int)<(xs.length:Int)by omega)];exact q _ s04
 have hlt:f.p.toNat<(cr f.n).P9.length:=by
  rcases hb with⟨hp,_⟩|⟨d,hd,_⟩
  ·omega
  ·exact(d7.mp hd).1
 have hd0:(cr f.n).P9[f.p.toNat]?=some (cr f.n).P9[f.p.toNat]:=Om hlt;have hdv:Qy[f.p.toNat]?=some (Qy[f.p.toNat]'(by omega)):=Om _;have dr:=d3.2 _ _ _ hd0 hdv;generalize (Qy[f.p.toNat]'(by omega))=dv at*;rw[Oq wl];nofun;left;nofun;rw[Og p0];nofun;refine bK (ao.of hpa) (v:=.ref b3) (bi (j:=2) rfl) ?_;nofun;refine dF (.inl (ao.of e3)) ?_;nofun;rw[Og (show f.p<(Qy.length:Int)by omega)];nofun;left;nofun;refine bK (ao.of hpa) (v:=.ref b3) (bi (j:=2) rfl) ?_;nofun;refine bK (ao.of e3) (v:=dv) (ml p0 hdv) ?_;nofun;left;nofun;refine aP t4 (v:=.str w) (bi (j:=1) rfl) ?_;nofun;rcases hb with⟨_,rfl,hi⟩|⟨d,hd,hb⟩
 ·rw[Og rfl];nofun;refine aP t4 (v:=.int (i:Int)) (bi (j:=4) rfl) ?_;nofun;rw[Og i0];nofun;have hn0:(cr f.n).P_[f.p.toNat]?=some ((cr f.n).P_[f.p.toNat]'(by omega)):=Om _;have hnv:QI[f.p.toNat]?=some (QI[f.p.toNat]'(by omega)):=Om _;obtain⟨b,xs,eb,hx,lx⟩:=xj (n4.2 _ _ _ hn0 hnv);rw[eb]at hnv;rw[OD,hn0,Option.getD_some]at hi;refine bK (ao.of hpa) (v:=.ref b4) (bi (j:=3) rfl) ?_;nofun;refine bK (ao.of e4) (v:=.ref b) (ml p0 hnv) ?_;nofun;refine dF (.inl hx) ?_;nofun;rw[Og (show(i:Int)<(xs.length:Int)by omega)];exact q _ s04
 unfold fz at hd;rw[hd0]at hd;injection hd with hd;rw[hd]at dr;obtain⟨t,xs,rfl,ht⟩:=tG dr;rcases hb with⟨l,rfl,rfl,rfl⟩|⟨m,g0,g1,t0,t1,rfl,rfl,hm,hi⟩
 ·rw[Oq (by decide)];nofun;left;nofun;refine aP t4 (v:=.str "hold") (bi (j:=1) rfl) ?_;nofun;rw[Og rfl];nofun;refine aP (aB.of ht) db ?_;nofun;rw[Og (show dM (Dd.hold l)="hold" from rfl)];nofun;refine aP t4 (v:=.int ((0:Nat):Int)) (bi (j:=4) rfl) ?_;nofun;rw[show decide (((0:Nat):Int)=0)=true from rfl];exact q _ s04
 ·obtain⟨t',zs,et,ht',px⟩:=fQ dr;cases et;obtain⟨z0,r3,rfl,q0,px⟩:=bR px;obtain⟨z1,r4,rfl,q1,px⟩:=bR px;cases eY q1;cases gz q0;rw[Oq (by decide)];nofun;left;nofun;refine aP t4 (v:=.str "needs") (bi (j:=1) rfl) ?_;nofun;rw[Oq (by decide)];nofun;refine aP t4 (v:=.str "needs") (bi (j:=1) rfl) ?_;nofun;rw[Og rfl];nofun;refine aP (aB.of ht') db ?_;nofun;rw[Og rfl];nofun;refine aP t4 (v:=.int (i:Int)) (bi (j:=4) rfl) ?_;nofun;rw[Og i0];nofun;refine aP (aB.of ht') (v:=.int m) (bi (j:=1) rfl) ?_;nofun;obtain⟨v2,j_,pa2,rfl,hP2⟩:=hk.2.2 m (hks m hm);obtain⟨y1,y2,c3,c4,dvs2,nvs2,hpa2,u1,_⟩:=hP2.same s04;obtain⟨b,xs2,rfl,hx,lx⟩:=xj u1;refine⟨ca,.ref pa2,rfl,by rw[<-j_];exact bh.k (k:=.inl m) (s04 _ _ hca),?_⟩;nofun;refine bK (ao.of hpa2) (v:=.ref b) db ?_;nofun;refine dF (.inl hx) ?_;nofun;rw[Og (show(i:Int)<(xs2.length:Int)by omega)];exact q _ s04
inductive uL (K:Fg)(vs:Ry)(H:Hp)(Q:VK)(E:XK):Prop|mk (a:Q2) (ns:Rv):vs=[.ref a]->ao K H a (ns.map V.int)->ns.length<=63->(∀ H',Q (.bl true) H')->uL K vs H Q E
theorem pO{H0:Hp}(s:ae H0 H)(f:∀ b∈S,H0 b=none)(o:aX S H H'):ae H0 H':=λb u e=>o b u (λz=>by rw[f b z]at e;cases e) (s b u e)
include B Z M_Craft Q7e Q7c in
theorem FL (Q8e:Fn P w K mg b8 "_law_hall_parts" ["script","start","many","size"] 7 (Ab K))(M_Hall:kZ P w K mg b8 "Hall" (C 6) ["self"] 1 (AO K C))(Q92:Fn P w K mg b8 "_law_changed" ["parts","cell","numbers"] 5 (z_ K))(G_Hall_lay:bF (cI P w) P w K mg b8 (C 6) "lay" ["self","number","craft"] 8 (AN K C))(G_l_run_by:Fn P w K mg b8 "_law_run_by" ["hall","number","given","rest"] 10 (zY K C))(Q5f:bF bH P w K mg b8 (C 8) "go" ["self","fuel"] 10 (Ax K C))(G_l_sought:Fn P w K mg b8 "_law_sought" ["hall","number"] 9 (zZ K C))(Q4d:bF bH P w K mg b8 (C 6) "sworn" ["self","number"] 4 (AH K C))(G_l_true:Fn P w K mg b8 "_law_true" ["told","run","crafts"] 2 (zX K C))(F:aN K "law" "law" md f fd):ce P w K mg b8 bH 11 f fd ["script"] (uL K):=by
 refine F.ok (k:=10) eW (λvs H Q E h=>?_) (λcdv A outer s H vs Q E hr h=>?_)
 ·obtain⟨a,ns,rfl,_⟩:=h;rfl
 obtain⟨a,ns,rfl,hS,h63,q⟩:=h;refine⟨_,(av (js 1 eW.nd (jp K ah (aK cg (jl Q7c hr (jn 0 (jk ag))) ah)))
   (av (js 2 eW.nd (jl Q8e hr (jn 0 (jk (jn 1 (jk ag))))))
   (av (jS 3 eW.nd (bB.f eW ["script","many","placed","numbers","crafts","hall","k","pair","cell","parts","number","given","rest","run","told"] [false,false,false,false,false,false,false,false,false,true,true,false,false,false,false]) (c_ K (pv 2)) (λn=>(mv K (n:=2) rfl (fB (jg 10 n) (fB (jg 9 n) lG)))) (pv 10))
   (av (js 4 eW.nd pT)
   (av (js 5 eW.nd (Gr M_Hall hr rfl))
   (av (gx RN rfl (v6 K rfl B.enumerate (jn 2 ag)) (mv K (n:=2) rfl (fB (jg 6 eW.nd) (fB (jg 7 eW.nd) lG))) (av (js 8 eW.nd (jl Q7e hr (bv (jl Q7c hr (jn 0 (jk ag))) (jn 6 (jk ag)))))
   (av (js 9 eW.nd (jl Q92 hr (bc (jx K (pv 7) ah) (jn 8 (jn 3 ag)))))
   (av (pG (bS hr) (pv 4) (jx K (pv 7) ah) (pv 9) rfl)
   (aw (dA (cN G_Hall_lay Z.Qx hr Gu (pv 5) (bc (jx K (pv 7) ah) (bv (vo M_Craft hr rfl (bc (jx K (pv 9) ah) (bc (jx K (pv 9) ah) (bc (jx K (pv 9) ah) (bc (jx K (pv 9) ah) ag))))) ag)))))))))
   (av (bb (lE (gj (b9 (kj K rfl) rfl B.all L2.kK (iH (jC (bB.f eW ["script","many","placed","numbers","crafts","hall","k","pair","cell","parts","number","given","rest","run","told"] [false,false,false,false,false,false,false,false,false,false,true,false,false,false,false]) (c_ K (pv 3)) (λn=>(jg 10 n)) (jl G_l_sought hr (jn 5 (jn 10 ag)))) ag)))) (aw (aF gZ)) bp)
   (av (gx RN rfl (v6 K rfl B.enumerate (jn 3 ag)) (mv K (n:=2) rfl (fB (jg 6 eW.nd) (fB (jg 10 eW.nd) lG))) (av (js 11 eW.nd (b_ (bw (aK jJ (aK cg (jl Q7c hr (jn 0 (bw (jp K ah (pv 6)) ag))) ah) ah) (bw (aK jJ (aK cg (jl Q7c hr (jn 0 (bw (jp K ah (pv 6)) ag))) ah) ah) ag))))
   (av (jS 12 eW.nd (bB.f eW ["script","many","placed","numbers","crafts","hall","k","pair","cell","parts","number","given","rest","run","told","i"] [false,false,false,false,false,false,false,false,false,false,false,false,false,false,false,true]) (hU rfl B.range (bw (aK cg (jl Q7c hr (jn 0 (jk ag))) ah) ag)) (λn=>(jg 15 n)) (jl Q7e hr (bv (jl Q7c hr (jn 0 (jk ag))) (bw (jp K (aK h_ ah (pv 6)) (pv 15)) (jk ag)))))
   (av (js 13 eW.nd (jl G_l_run_by hr (jn 5 (jn 10 (jn 11 (jn 12 ag))))))
   (av (bb (jc lD (pv 13) gk) (aw Mp) bp)
   (av (js 14 eW.nd (cN Q5f Z.Qk hr bZ (pv 13) (bv (jl Q7e hr (bv (jl Q7c hr (jn 0 (jk ag))) (jn 6 (jk ag)))) ag)))
   (aw (bb (jt K hr (jx K (pv 14) ah) bJ) (aw (bb (PW.pt (jF (jc Iw (cN Q4d Z.Qx hr bZ (pv 5) (jn 10 ag)) gZ) (jF (lE (gj (jl G_l_true hr (jn 14 (jn 13 (jn 4 ag)))))) (nW (jc (iz K hr) (cN Q5f Z.Qk hr bZ (pv 13) (jk ag)) (pv 14)))))) (aw (aF gZ)) bp)) bp))))))))
   (aw (aF gZ)))))))))),?_⟩
 left;nofun;refine iQ hS (by decide) ?_;nofun;have c1:=OU (cell ns 0) (show(3:Int)≠0 by decide);have c2:=OQ (cell ns 0) (show(0:Int)<3 by decide);have cm:1<=1+cell ns 0%3/\1+cell ns 0%3<=3:=by omega
 generalize 1+cell ns 0%3=many at*;left;nofun;refine⟨a,7,many,3,ns,rfl,hS,by decide,by omega,by omega,by decide,by decide,λv H2 P8 Qh cells s2 HP n2=>?_⟩;have pk:=HP.ps (by omega) (by decide);have n2':ak H H2 (.lst ((kN P8 Qh cells many.toNat).map mi)) v:=by rw[L6];exact n2
 have plen:(kN P8 Qh cells many.toNat).length=many.toNat:=by unfold kN;simp
 obtain⟨pl,rfl,pl0,PA⟩:=Ky (λp hp=>(pk.rt p hp).nine.d9) n2';generalize kN P8 Qh cells many.toNat=ps at*;clear n2 n2';have hS2:=s2.seq hS;have lps:=pk.len;have ln3:P8.length<=3:=by omega
 have enm:=pk.nums;obtain⟨pvs,hpv,r2⟩:=id PA;nofun;left;nofun;nomatch pl,rfl,⟨_,ao.of hpv⟩;refine cG (dO (ao.of hpv)) (P8.map D.int) (by rw[aT,<-lps,r2.1]) (br (by rw[<-r2.1];omega)) (λi x d H3 R hi hd s3 hx hR=>?_) (λv H3 s3 n3=>?_)
 ·have hi':i<ps.length:=by rw[r2.1];exact hi
  have ep:ps[i]?=some ps[i]:=Om hi';obtain⟨T',w,rfl,hT',hw⟩:=r2.2 i _ x ep hx;obtain⟨en,ec⟩:=pk.get ep;rw[aM,en]at hd;cases hd;refine⟨T',_,rfl,aB.of (s3 _ _ hT'),rfl,⟨_,_,rfl,?_⟩⟩;nomatch _,_,rfl;exists rfl;exact hR _ _ (ae.refl _) ak.int
 obtain⟨na,rfl,na0,hna⟩:=ak.iif.mp n3;nofun;left;nofun;intro ca ca0;have s4:=ax ca0 (.dK []);have g4:(upd H3 ca (.dK [])) ca=some (.dK []):=aq;generalize upd H3 ca (.dK [])=H4 at*;nofun;left;nofun;intro ha dx ha0 dx0 ndx;refine⟨ha,dx,rfl,aq,λla va H5 la0 va0 nlv o1 h1 h2 h3=>⟨rfl,?_⟩⟩;have s5:ae H4 H5:=KA ha0 dx0 o1;have hA5:cc (C 6) (C 0) H5 ha la va [] (λ_=>⟨[],[],[],[]⟩) [] []:=cc.start h1 h2 h3 nlv;have sm:ae H4 (upd (upd H4 dx (.own ha)) ha (.ins (C 6) dx [])):=λb o e=>by rw[aC (cj e ha0),aC (cj e dx0)];exact e
 have la4:=sm.free la0;have va4:=sm.free va0;have nca:ca≠la/\ca≠va:=⟨λz=>(by rw[<-z,g4]at la4;cases la4),λz=>(by rw[<-z,g4]at va4;cases va4)⟩;have la3:=s4.free la4;have va3:=s4.free va4;clear h1 h2 h3 nlv o1 la0 va0 ha0 dx0 ndx sm;have s35:=s4.trans s5;have hpv3:=s3 _ _ hpv;have hS3:=s3.seq hS2;nofun;with_reducible refine jH (λσ H'=>E7 λx6 x7 x8 x9 cr fp kvs=>A6 (σ=[some (.ref a),some (.int many),some (.ref pl),some (.ref na),some (.ref ca),some (.ref ha),x6,x7,x8,x9,none,none,none,none,none]) (ae H3 H') (cc (C 6) (C 0) H' ha la va P8 cr [] fp) (H' ca=some (.dK kvs)) (cD (λm v=>∃ pa,v=.ref pa/\ii K H' pa (cr m)) kvs P8) (∀ m∈P8,(cr m).Rt/\∀ k∈cK (cr m).P9,k∈P8)) (λNX hN=>?_) (λσ H' hM=>?_)
 ·nofun;nomatch pl,_,rfl,s35 _ _ hpv3;refine DC (xs:=pvs) (λi σ H'=>E7 λx6 x7 x8 x9 cr fp kvs=>A6 (σ=[some (.ref a),some (.int many),some (.ref pl),some (.ref na),some (.ref ca),some (.ref ha),x6,x7,x8,x9,none,none,none,none,none]) (ae H3 H') (cc (C 6) (C 0) H' ha la va (P8.take i) cr [] fp) (H' ca=some (.dK kvs)) (cD (λm v=>∃ pa,v=.ref pa/\ii K H' pa (cr m)) kvs (P8.take i)) (∀ m∈P8.take i,(cr m).Rt/\∀ k∈cK (cr m).P9,k∈P8)) ⟨none,none,none,none,_,[],[],rfl,s35,hA5,s5 _ _ g4,cD.nil,λm hm=>by simp at hm⟩ (λi σ H' _ ⟨_,_,_,_,_,_,_,_,s,_,_,_,_⟩=>ao.of (s _ _ hpv3)) ?_ ?_
  ·rintro i v T σ H6 hv ⟨x6,x7,x8,x9,cr,fp,kvs,rfl,s6,hA6,hca6,hk6,hcr6⟩ hT;have hi:i<ps.length:=by rw[r2.1];exact(d7.mp hv).1
   have ep:ps[i]?=some ps[i]:=Om hi;obtain⟨T',w,rfl,hT',hw⟩:=r2.2 i _ v ep hv;obtain⟨en,ec⟩:=pk.get ep;have rt:=pk.rt _ (OO hi);have cls:=pk.calls _ (OO hi);generalize ps[i]=p at*;obtain⟨n,c⟩:=p;have nb:=pk.nb n (cq en);have s7:=ax hT (.tup [V.int (i:Int),.ref T']);have g7:(upd H6 T (.tup [V.int (i:Int),.ref T'])) T=some (.tup [V.int (i:Int),.ref T']):=aq;generalize upd H6 T (.tup [V.int (i:Int),.ref T'])=H7 at*;have s67:=s6.trans s7;have s27:=s3.trans s67;have hT7:=s27 _ _ hT';obtain⟨qa,z1,z2,b3,b4,dvs',nvs',rfl,hq,L1,L2',hb3,hb4,hD,hNt⟩:=o_.nod s27.nod hw;refine⟨T,_,rfl,aB.of g7,rfl,⟨_,_,rfl,?_⟩⟩;nomatch _,_,rfl;exists rfl;left;nofun;refine iQ (s67.seq hS3) (by decide) ?_;nofun;refine eK (by decide) ?_;generalize aR (cell ns 1) (i:Int) 1000003=cl;nofun;left;nofun;refine aP (aB.of hT7) (v:=.ref qa) (bi (j:=1) rfl) ?_;nofun;refine⟨qa,na,cl,P8,c,rfl,⟨_,_,b3,b4,dvs',nvs',hq,L1.rep,L2'.rep,hb3,hD,hb4,hNt.mono λls x ⟨b,e1,e2⟩=>by rw[e1];exact e2.rep⟩,rt,ao.of (s67 _ _ hna),by omega,by omega,λm hm=>by have:=pk.nb m hm;omega,cls,λta c' H8 s8 hP8 rt8 cl8=>?_⟩;have s78:=s7.trans s8;have hca8:=s78 _ _ hca6;have hT8:=s8 _ _ hT7;have kl:=hk6.len;rw[O0]at kl;nofun;left;nofun;refine aP (aB.of hT8) (v:=.int n) db ?_;nofun;nomatch ca,_,rfl,eN.k (k:=.inl n) hca8 (j4 (by omega));have o9:aX [ca] H8 (upd H8 ca (.dK (aZ kvs (.inl n) (.ref ta)))):=hX (by simp);have d9:fG H8 (upd H8 ca (.dK (aZ kvs (.inl n) (.ref ta)))):=og hca8;have g9:(upd H8 ca (.dK (aZ kvs (.inl n) (.ref ta)))) ca=some (.dK (aZ kvs (.inl n) (.ref ta))):=aq;have hA9:=IK (hA6.same s78) hca8 nca.1 nca.2 o9;generalize upd H8 ca (.dK (aZ kvs (.inl n) (.ref ta)))=H9 at*;have hT9:=d9 _ _ hT8 (λ_ z=>by cases z);obtain⟨y1,y2,c3,c4,dvs2,nvs2,hta,r1,r2',e3,dd3,e4,nn4⟩:=hP8.nod d9;obtain⟨dx9,hh9⟩:=hA9.ins;nofun;exists ha,dx9,_,rfl,hh9,gX;refine aP (aB.of hT9) (v:=.int n) db ?_;nofun;refine bK (ao.of hta) (v:=y1) db ?_;nofun;refine bK (ao.of hta) (v:=y2) (bi (j:=1) rfl) ?_;nofun;refine bK (ao.of hta) (v:=.ref c3) (bi (j:=2) rfl) ?_;nofun;refine bK (ao.of hta) (v:=.ref c4) (bi (j:=3) rfl) ?_;nofun;intro p dp p0 dp0 ndp;refine D2 (c:=c') p0 dp0 r1 r2' (ao.of e3) (ao.of e4) dd3 nn4 rt8.nine λH10 f s10 hC hf fn=>⟨rfl,?_⟩;nofun;have hlt:i<P8.length:=by rw[<-lps];exact hi
   refine⟨ha,la,va,p,n,P8.take i,cr,[],fp,c',rfl,hA9.same s10,hC.t rt8.nine.d9,rt8.nine,by unfold fE;omega,.inr (by rw[O0];omega),λz=>(by rw[rt8.r]at z;cases z),λ_ H11 ks' ws' fp' o11 hA11 _ _ hks hws _=>?_⟩;have nn:n∉P8.take i:=EH pk.nd en;have tk:P8.take (i+1)=P8.take i++[n]:=by rw[O5,en];rfl
   have ws0:ws'=[]:=List.eq_nil_iff_forall_not_mem.mpr λm hm=>by have:=((hws m).mp hm).1;cases this
   have d11:=o11.nod λb hb=>(by
    push_cast at hb;rcases hb with rfl|rfl
    ·obtain⟨kl,h,_⟩:=(hA9.same s10).laid;exact⟨_,h⟩
    ·obtain⟨kl,h,_⟩:=(hA9.same s10).vou;exact⟨_,h⟩)
   have dz:=d9.trans (s10.nod.trans d11);have s3z:ae H3 H11:=pO ((pO (s6.trans s78) (λb hb=>by rw[bn.mp hb];exact ca0) o9).trans s10) (λb hb=>by
    push_cast at hb;rcases hb with rfl|rfl
    ·exact la3
    ·exact va3) o11
   have put:=hk6.put' (m:=n) (v:=.ref ta) (P':=λm v=>∃ pa,v=.ref pa/\ii K H11 pa (eM cr n c' m)) ⟨ta,rfl,by unfold eM;rw[Ol rfl];exact hP8.nod dz⟩ (λm v ne ⟨pa',e1,e2⟩=>⟨pa',e1,by unfold eM;rw[Oh ne];exact e2.nod (s78.nod.trans dz)⟩);rw[Oh nn]at put;nofun;refine⟨_,_,_,_,eM cr n c',fp',_,rfl,s3z,by rw[tk,<-hks nn,<-ws0];exact hA11,o11 _ _ (by simp[nca.1,nca.2]) (s10 _ _ g9),by rw[tk];exact put,λm hm=>?_⟩;rw[tk]at hm;unfold eM;by_cases z:m=n
   ·rw[Ol z];exact⟨rt8,cl8⟩
   ·rw[Oh z];refine hcr6 m ?_;rcases bW.mp hm with y|y
    ·exact y
    ·exact OE (bn.mp y) z
  ·rintro σ H6 ⟨x6,x7,x8,x9,cr,fp,kvs,rfl,s6,hA6,hca6,hk6,hcr6⟩;rw[<-r2.1,lps,Oy (On _)]at hA6 hk6 hcr6;exact hN _ _ ⟨x6,x7,x8,x9,cr,fp,kvs,rfl,s6,hA6,hca6,hk6,hcr6⟩
 obtain⟨x6,x7,x8,x9,cr,fp,kvs,rfl,s6,hA6,hca6,hk6,hcr6⟩:=hM;have hna6:=s6 _ _ hna;have nva':na≠va:=λz=>by rw[z,va3]at hna;cases hna
 nofun;with_reducible refine jH (λσ H7=>∃ ws,A6 (σ=[some (.ref a),some (.int many),some (.ref pl),some (.ref na),some (.ref ca),some (.ref ha),x6,x7,x8,x9,none,none,none,none,none]) (ae H3 H7) (cc (C 6) (C 0) H7 ha la va P8 cr ws fp) (H7 ca=some (.dK kvs)) (cD (λm v=>∃ pa,v=.ref pa/\ii K H7 pa (cr m)) kvs P8) (∀ m,m∈ws↔m∈P8/\mE ((cr m).gs cr))) (λNX hN=>?_) (λσ H7 hM=>?_)
 ·nofun;nomatch na,rfl,⟨_,ao.of hna6⟩;refine GS (xs:=P8.map V.int) (br (by rw[aT];omega)) (λi H8=>aX [va] H' H8/\∃ ws,cc (C 6) (C 0) H8 ha la va P8 cr ws fp/\∀ m,m∈ws↔m∈P8.take i/\mE ((cr m).gs cr)) ⟨(ae.refl _).offA,[],hA6,λm=>by simp⟩ ?_ ?_ ?_ ?_
  ·rintro i H8 ⟨o8,_⟩;exact ao.of (o8 _ _ (by simp[nva']) hna6)
  ·rintro i H8 D o hD ht ⟨o8,ws,hA8,hw8⟩;have nD:∀ b u,H' b=some u->b≠D:=λb u e z=>by rw[z,hD]at e;cases e
   refine⟨λb u nb e=>by rw[aC (nD b u e)];exact o8 b u nb e,ws,hA8.frame (pR ht) λb hb u e=>?_,hw8⟩;obtain⟨u',e'⟩:=hA6.dom b hb;rw[aC (nD b u' e')];exact e
  ·rintro i x H8 D ys R hx ⟨o8,ws,hA8,hw8⟩ hD hDy hR;rw[aM]at hx;obtain⟨n,en,rfl⟩:=bV.mp hx;have nm:=cq en;have nb:=pk.nb n nm;have tk:P8.take (i+1)=P8.take i++[n]:=by rw[O5,en];rfl
   nofun;refine⟨ha,la,va,n,P8,cr,ws,fp,rfl,hA8,nm,by unfold fE;omega,(hcr6 n nm).2,λH9 ws9 o9 hA9 hw9=>?_⟩;refine hR H9 ⟨o8.trans o9,ws9,hA9,λm=>?_⟩ (o9 _ _ (λz=>?_) hDy)
   ·rw[hw9,hw8,tk,bW,bn];exact⟨λz=>z.elim (λz=>⟨.inl z.1,z.2⟩) λz=>⟨.inr z.1,z.1 ▸ z.2⟩,λz=>z.1.elim (λy=>.inl ⟨y,z.2⟩) λy=>.inr ⟨y,y ▸ z.2⟩⟩
   ·obtain⟨u,e⟩:=hA6.dom va (by simp);rw[<-bn.mp z,hD]at e;cases e
  ·rintro D H8 hD ⟨o8,ws,hA8,hw8⟩ hDy;rw[aT]at hDy hw8;rw[Oy (On _)]at hw8;nofun;refine km (ao.of hDy) ?_;rw[show(RB P8.length true).all id=true by simp];nofun;have d8:=o8.nod λb hb=>(by obtain⟨kv,h,_⟩:=hA6.vou;rw[bn.mp hb];exact⟨_,h⟩);exact hN _ _ ⟨ws,rfl,pO s6 (λb hb=>by rw[bn.mp hb];exact va3) o8,hA8,o8 _ _ (by simp[nca.2]) hca6,hk6.mono λm v ⟨pa,e,z⟩=>⟨pa,e,z.nod d8⟩,hw8⟩
 obtain⟨ws,rfl,s7,hA7,hca7,hk7,hw7⟩:=hM;have hna7:=s7 _ _ hna;have hS7:=s7.seq hS3;nofun;with_reducible refine jH (λσ H'=>True) (λNX hN=>?_) (λσ H' hM=>?_)
 ·nofun;nomatch na,_,rfl,hna7;refine DC (xs:=P8.map V.int) (λi σ H'=>E6 λy6 y10 y11 y12 y13 y14=>σ=[some (.ref a),some (.int many),some (.ref pl),some (.ref na),some (.ref ca),some (.ref ha),y6,x7,x8,x9,y10,y11,y12,y13,y14]/\ae H7 H') ⟨x6,none,none,none,none,none,rfl,ae.refl _⟩ (λi σ H' _ ⟨_,_,_,_,_,_,_,s⟩=>ao.of (s _ _ hna7)) ?_ ?_
  ·rintro i v T σ H8 hv ⟨y6,y10,y11,y12,y13,y14,rfl,s8⟩ hT;rw[aM]at hv;obtain⟨n,en,rfl⟩:=bV.mp hv;have nm:=cq en;have nb:=pk.nb n nm;have s9:=ax hT (.tup [V.int (i:Int),.int n]);have g9:(upd H8 T (.tup [V.int (i:Int),.int n])) T=some (.tup [V.int (i:Int),.int n]):=aq;generalize upd H8 T (.tup [V.int (i:Int),.int n])=H9 at*;have s79:=s8.trans s9;refine⟨T,_,rfl,aB.of g9,rfl,⟨_,_,rfl,?_⟩⟩;nomatch _,_,rfl;exists rfl;left;nofun;refine iQ (s79.seq hS7) (by omega) ?_;nofun;refine iQ (s79.seq hS7) (by omega) ?_;nofun;generalize cell ns (2+(i:Int))%12 - 2=a0;generalize cell ns (3+(i:Int))%30 - 3=a1;refine mX λgt H10 s10 hgt=>?_;have s710:=s79.trans s10;nofun;left;nofun;refine iQ (s710.seq hS7) (by decide) ?_;have r0:=OU (cell ns 6) (show(9:Int)≠0 by decide);have r9:=OQ (cell ns 6) (show(0:Int)<9 by decide);nofun;generalize cell ns 6%9=rn at r0 r9 ⊢;refine hJ (by omega) (by omega) ?_;refine cG kO (((RD rn.toNat).map λ(j:Nat)=>aR (cell ns 6) (9*(i:Int)+(0+(j:Int))) 5).map D.int) (by simp) (br (by omega)) (λj x d H11 R hj hd s11 hx hR=>?_) (λv H11 s11 n11=>?_)
   ·subst hx;rw[aM]at hd;obtain⟨z,hz,rfl⟩:=bV.mp hd;rw[aM,O1 hj]at hz;cases hz;nofun;refine iQ ((s710.trans s11).seq hS7) (by decide) ?_;nofun;refine eK (by decide) ?_;exact hR _ _ (ae.refl _) ak.int
   obtain⟨rl,rfl,rl0,hrl⟩:=ak.iif.mp n11;generalize ((RD rn.toNat).map λ(j:Nat)=>aR (cell ns 6) (9*(i:Int)+(0+(j:Int))) 5)=rest at*;have s711:=s710.trans s11;have hA11:=hA7.same s711;have hg11:=s11 _ _ hgt;nofun;left;nofun;refine⟨ha,la,va,gt,rl,n,a0,a1,P8,cr,ws,fp,rest,rfl,hA11,.inr (aB.of hg11),ao.of hrl,by unfold fE;omega,nm,λrv H12 s12 hrv=>?_⟩;nofun;left;nofun;nomatch rfl;rcases hrv with⟨bad,rfl⟩|⟨met,r,ka,ia,sa,Qj,Qq,nn,rfl,RX,pmn,ow,kf⟩
   ·rw[Og rfl];nofun;exact⟨_,_,_,_,_,_,rfl,s711.trans s12⟩
   rw[Oq (λz=>by cases z)];nofun;have rtn:∀ m∈nn,(cr m).Rt:=λm hm=>(hcr6 m (pmn.mem_iff.mp hm)).1;have wb:Wf nn cr [eX n a0 a1]:=⟨λk hk=>by rw[bn.mp hk];exact⟨pmn.mem_iff.mpr nm,by show(0:Int)<=0;omega,by show(0:Int)<=_;omega,rfl,rfl⟩,λk hk=>by cases hk⟩;have nds:∀ l∈(cr n).Qg,0<=aU l (ij a0 a1):=λl hl=>by unfold cL at met;rw[List.findIdx?_eq_none_iff]at met;have:=Ou (met l hl);omega
   have w0:iB nn cr (du cr ⟨[],rest,0,none⟩ (eX n a0 a1) []):=mD wb;have l0:(du cr ⟨[],rest,0,none⟩ (eX n a0 a1) []).st.length<=20:=OI tM (by simp);have b0:eO cr nn (du cr ⟨[],rest,0,none⟩ (eX n a0 a1) []).st (du cr ⟨[],rest,0,none⟩ (eX n a0 a1) []).en:=lJ wb;have o0:eP (du cr ⟨[],rest,0,none⟩ (eX n a0 a1) []).en:=lK;have SD:(∀ m,cp P8 cr n m->m∈ws)->∀ k,gV cr n [a0,a1] (de cr nn k (du cr ⟨[],rest,0,none⟩ (eX n a0 a1) [])).en:=λz k=>by have SN:lU (cp P8 cr n) nn cr:=⟨λm hm=>pmn.mem_iff.mpr ((hw7 m).mp (z m hm)).1,λm hm=>(hcr6 m ((hw7 m).mp (z m hm)).1).1,λm hm=>((hw7 m).mp (z m hm)).2,λm hm k hk=>.go hm (by unfold fC;rw[Ol ((hw7 m).mp (z m hm)).1];exact hk)⟩;have S0:=ue (n0:=n) (a:=[a0,a1]) SN (st:=[]) (f:=eX n a0 a1) ⟨.me,DS SN .me nds,rfl,rfl,by show(0:Int)<=0;omega,by show(0:Int)<=_;omega,⟨rfl,rfl⟩,trivial⟩;exact(tL SN k S0.1 S0.2).1
   clear wb nds met;generalize du cr ⟨[],rest,0,none⟩ (eX n a0 a1) []=s0 at*;obtain⟨dr,evr,hr',_⟩:=RX.ins;nofun;left;nofun;exists r,dr,_,rfl,hr',dm;refine iQ ((s711.trans s12).seq hS7) (by decide) ?_;nofun;refine eK (by decide) ?_;nofun;generalize aR (cell ns 5) (i:Int) 61=fu;refine⟨r,ka,ia,sa,nn,cr,Qj,s0,Qq,fu,rfl,RX,w0,l0,λtold H13 fas1 m13 R1 tl w1 l1=>?_⟩;have b1:=Cy rtn fu.toNat w0 b0;have o1:=DW (ks:=nn) (cr:=cr) fu.toNat o0;have SD:=λz=>SD z fu.toNat;generalize de cr nn fu.toNat s0=s1 at*;have s1113:=pO s12 ow m13.1;have ow1:∀ b∈aJ r ia sa fas1,H11 b=none:=λb hb=>(m13.2.1 b hb).elim (ow b) s12.free;clear b0 o0 w0 l0 hr';obtain⟨Tt,rfl,hTt⟩:=tl;nofun;cases he:s1.en with
   |none=>rw[he]at hTt;refine aP (aB.of hTt) (v:=.str "cut") db ?_;nofun;rw[Oq (by decide)];nofun;exact⟨_,_,_,_,_,_,rfl,s711.trans s1113⟩|some e=>
   have hTe:=hTt;rw[he]at hTe;rcases b1 e he with⟨f,st,w,j,est,rfl,hb⟩|⟨x,xs,rfl,nx⟩
   ·refine aP (aB.of hTe) (v:=.str "broken") db ?_;nofun;rw[Og rfl];nofun;have ne:s1.en≠none:=by rw[he];intro z;cases z
    have hA13:=hA11.same s1113;obtain⟨dx13,hh13⟩:=hA13.ins;exists ha,dx13,_,rfl,hh13,gX;refine⟨ha,la,va,n,P8,cr,ws,fp,P8,rfl,hA13,nm,λm k hk=>?_,by omega,λH14 b s14 hb14=>?_⟩
    ·unfold fC at hk;split at hk
     ·rename_i z;exact(hcr6 m z).2 k hk
     ·cases hk
    have bf:b=false:=by cases b with
     |false=>rfl|true=>have:=SD (hb14.mp rfl);rw[he]at this;rcases this with z|z|z|z|⟨r0,r1,z,_⟩<;>cases z
    subst bf;nofun;nomatch false,false,rfl,rfl;rw[show(!decide (false=false))=false by decide];nofun;have s1114:=s1113.trans s14;have s714:=s711.trans s1114;refine⟨Tt,r,ka,ia,sa,ca,P8,nn,cr,fas1,s1,Qq,kvs,f,st,w,j,rfl,s14 _ _ hTe,R1.same s14,l1,est,hb,w1.w.1 f (by rw[est];exact Oi),s714 _ _ hca7,hk7.mono λm v ⟨pa,e1,e2⟩=>⟨pa,e1,e2.same s714⟩,λm hm=>pmn.mem_iff.mp hm,λm hm=>(hcr6 m hm).1,λH15 s15=>?_⟩;nofun;have s1315:=s14.trans s15;have R15:=R1.same s1315;obtain⟨dr15,evr15,hr15,_⟩:=R15.ins;exists r,dr15,_,rfl,hr15,dm;refine⟨r,ka,ia,sa,nn,cr,fas1,s1,Qq,3,rfl,R15,w1,l1,λtold2 H16 fas2 m16 R2 tl2 _ _=>?_⟩;rw[CW ne]at tl2;obtain⟨T2,rfl,hT2⟩:=tl2;nofun;refine CG (d:=oU s1.en) (oZ.rep ⟨T2,rfl,hT2⟩ o1) (oZ.rep ⟨Tt,rfl,R15.ntup m16.1 _ _ (s1315 _ _ hTt)⟩ o1) (IL o1) ?_;nofun;exact⟨_,_,_,_,_,_,rfl,s711.trans (pO (s1113.trans s1315) ow1 m16.1)⟩
   ·refine aP (aB.of hTe) (v:=.str x) db ?_;nofun;rw[Oq nx];nofun;exact⟨_,_,_,_,_,_,rfl,s711.trans s1113⟩
  ·rintro σ H8 _;exact hN _ _ trivial
 nofun;exact q _
end
abbrev FQ (K:Fg)(f:Q2)(x q:Str)(s:RM):Prop:=∃ oc od sl kV dc pm an cd ct,K.lookup f=some ⟨oc,od,.func (fnOf x q (jV s) (gE s) (aI s) .none kV dc pm an cd ct),sl⟩/\codeIn K cd q=true/\keepIn K (.ref f)=true
theorem aY{f:Q2}{x q:Str}{s:RM}(h:FQ K f x q s):∃ fd,aN K x q s f fd:=by obtain⟨_,_,_,_,_,_,_,_,_,l,c,k⟩:=h;exact⟨_,B0 l c k⟩
abbrev NI (K:Fg)(x:Str)(f:Q2):Prop:=nsIn K RJ x=some (some (.ref f))
abbrev FI (K:Fg)(C:Q2)(x:Str)(f:Q2):Prop:=findIn K (.ref C) x=some (some (.ref f))
abbrev KI (K:Fg)(f:Q2):Prop:=keepIn K (.ref f)=true
abbrev IF (K:Fg)(f:Q2):Prop:=isFn K (.ref f)=true
theorem mZ{l:PySem.W.OpenLaw}{h:RW}{fa:Q2}(X:K.In h)(G:h.Ns RJ mg)(hfa:mg "law"=some (.ref fa))(hA:((e8 K).all id,gI K)=(true,gH)):
  ∃ fd:FuncData,(∀(s:RC) (v:be),BindsTo s fd ⟨[v],[]⟩ [("script",v)])/\∀ b8:RW,K.In b8->b8.Ns RJ mg->ce l.prog w K mg b8 bH 11 fa fd ["script"] (uL K):=by obtain⟨_,_,_,xa_HAND_SPOTS⟩:=L2.sX (bA hA 235 rfl);obtain⟨_,_,_,xa_LEFT_SPOTS⟩:=L2.sX (bA hA 237 rfl);obtain⟨_,_,_,xa_LEFT_AS_HANDS⟩:=L2.sX (bA hA 239 rfl);obtain⟨_,_,_,xa_WHOLES⟩:=L2.sX (bA hA 251 rfl);have e:=hfa.symm.trans (PK X G (eA hA 217 rfl));cases e;have B:Bl K mg:=⟨PR X G (eA hA 219 rfl),PR X G (eA hA 220 rfl),PR X G (eA hA 221 rfl),PR X G (eA hA 222 rfl),PR X G (eA hA 223 rfl),PR X G (eA hA 224 rfl),PR X G (eA hA 225 rfl),PR X G (eA hA 226 rfl),PR X G (eA hA 227 rfl),PR X G (eA hA 228 rfl),PR X G (eA hA 229 rfl),PR X G (eA hA 230 rfl),PR X G (eA hA 231 rfl),⟨_,PK X G (eA hA 232 rfl)⟩,⟨_,PK X G (eA hA 233 rfl)⟩,⟨_,PK X G (eA hA 240 rfl)⟩,⟨_,PK X G (eA hA 241 rfl)⟩,⟨_,PK X G (eA hA 242 rfl)⟩,⟨_,PK X G (eA hA 243 rfl)⟩,⟨_,PK X G (eA hA 244 rfl)⟩,⟨_,PK X G (eA hA 245 rfl)⟩,⟨_,PK X G (eA hA 246 rfl)⟩,⟨_,PK X G (eA hA 247 rfl)⟩,⟨_,PK X G (eA hA 248 rfl)⟩,⟨_,PK X G (eA hA 249 rfl)⟩,⟨_,PK X G (eA hA 252 rfl)⟩,⟨_,PK X G (eA hA 234 rfl),λ_=>.inr ⟨_,_,_,xa_HAND_SPOTS,rfl,rfl,br (by simp),.cons ⟨_,rfl⟩ (.cons ⟨_,rfl⟩ (.cons ⟨_,rfl⟩ (.cons ⟨_,rfl⟩ (.nil))))⟩⟩,⟨_,PK X G (eA hA 236 rfl),λ_=>.inr ⟨_,_,_,xa_LEFT_SPOTS,rfl,rfl,br (by simp),.cons ⟨_,rfl⟩ (.cons ⟨_,rfl⟩ (.nil))⟩⟩,⟨_,PK X G (eA hA 238 rfl),λ_=>.inr ⟨_,_,_,xa_LEFT_AS_HANDS,rfl,rfl,br (by simp),.cons ⟨_,rfl⟩ (.cons ⟨_,rfl⟩ (.cons ⟨_,rfl⟩ (.cons ⟨_,rfl⟩ (.cons ⟨_,rfl⟩ (.cons ⟨_,rfl⟩ (.cons ⟨_,rfl⟩ (.cons ⟨_,rfl⟩ (.nil))))))))⟩⟩,⟨_,PK X G (eA hA 250 rfl),λ_=>.inr ⟨_,_,_,xa_WHOLES,rfl,rfl,br (by simp),.cons ⟨_,rfl⟩ (.cons ⟨_,rfl⟩ (.cons ⟨_,rfl⟩ (.cons ⟨_,rfl⟩ (.nil))))⟩⟩⟩;have Z:Zt K mg (λi=>[70,192,205,217,229,241,443,478,609].getD i 0):=⟨⟨(bA hA 263 rfl),(bA hA 264 rfl),(bA hA 265 rfl),(eA hA 266 rfl)⟩,PK X G (eA hA 0 rfl),(eA hA 269 rfl),(eA hA 270 rfl),(eA hA 271 rfl),(eA hA 272 rfl),⟨(L2.pp (bA hA 253 rfl)),(bA hA 254 rfl)⟩,PK X G (eA hA 1 rfl),⟨(L2.pp (bA hA 255 rfl)),(bA hA 256 rfl)⟩,PK X G (eA hA 2 rfl),⟨(L2.pp (bA hA 257 rfl)),(bA hA 258 rfl)⟩,PK X G (eA hA 3 rfl),⟨(L2.pp (bA hA 259 rfl)),(bA hA 260 rfl)⟩,PK X G (eA hA 4 rfl),⟨(L2.pp (bA hA 261 rfl)),(bA hA 262 rfl)⟩,PK X G (eA hA 5 rfl),⟨(bA hA 273 rfl),(bA hA 274 rfl),(bA hA 275 rfl),(eA hA 276 rfl)⟩,PK X G (eA hA 6 rfl),(eA hA 279 rfl),(eA hA 280 rfl),⟨(bA hA 281 rfl),(bA hA 282 rfl),(bA hA 283 rfl),(eA hA 284 rfl)⟩,PK X G (eA hA 7 rfl),(eA hA 287 rfl),(eA hA 288 rfl),(eA hA 289 rfl),(eA hA 290 rfl),⟨(bA hA 291 rfl),(bA hA 292 rfl),(bA hA 293 rfl),(eA hA 294 rfl)⟩,PK X G (eA hA 8 rfl),(eA hA 297 rfl),(eA hA 298 rfl),(eA hA 299 rfl),(eA hA 300 rfl),(eA hA 301 rfl)⟩;obtain⟨_,F1⟩:=aY (fA hA 0 10 79 _ _ _ rfl rfl rfl);obtain⟨_,F2⟩:=aY (fA hA 1 12 84 _ _ _ rfl rfl rfl);obtain⟨_,F3⟩:=aY (fA hA 2 15 67 _ _ _ rfl rfl rfl);obtain⟨_,F4⟩:=aY (fA hA 3 17 28 _ _ _ rfl rfl rfl);obtain⟨_,F5⟩:=aY (fA hA 4 19 35 _ _ _ rfl rfl rfl);obtain⟨_,F6⟩:=aY (fA hA 5 21 40 _ _ _ rfl rfl rfl);obtain⟨_,F7⟩:=aY (fA hA 6 23 45 _ _ _ rfl rfl rfl);obtain⟨_,F8⟩:=aY (fA hA 7 25 52 _ _ _ rfl rfl rfl);obtain⟨_,F9⟩:=aY (fA hA 8 27 91 _ _ _ rfl rfl rfl);obtain⟨_,F10⟩:=aY (fA hA 9 29 96 _ _ _ rfl rfl rfl);obtain⟨_,F11⟩:=aY (fA hA 10 31 177 _ _ _ rfl rfl rfl);obtain⟨_,F12⟩:=aY (fA hA 11 33 170 _ _ _ rfl rfl rfl);obtain⟨_,F13⟩:=aY (fA hA 12 35 130 _ _ _ rfl rfl rfl);obtain⟨_,F14⟩:=aY (fA hA 13 37 125 _ _ _ rfl rfl rfl);obtain⟨_,F15⟩:=aY (fA hA 14 39 110 _ _ _ rfl rfl rfl);obtain⟨_,F16⟩:=aY (fA hA 15 41 163 _ _ _ rfl rfl rfl);obtain⟨_,F17⟩:=aY (fA hA 16 43 156 _ _ _ rfl rfl rfl);obtain⟨_,F18⟩:=aY (fA hA 17 45 151 _ _ _ rfl rfl rfl);obtain⟨_,F19⟩:=aY (fA hA 18 47 144 _ _ _ rfl rfl rfl);obtain⟨_,F20⟩:=aY (fA hA 19 49 137 _ _ _ rfl rfl rfl);obtain⟨_,F21⟩:=aY (fA hA 20 51 115 _ _ _ rfl rfl rfl);obtain⟨_,F22⟩:=aY (fA hA 21 53 120 _ _ _ rfl rfl rfl);obtain⟨_,F23⟩:=aY (fA hA 22 55 103 _ _ _ rfl rfl rfl);obtain⟨_,F24⟩:=aY (fA hA 23 57 182 _ _ _ rfl rfl rfl);obtain⟨_,F25⟩:=aY (fA hA 24 59 308 _ _ _ rfl rfl rfl);obtain⟨_,F26⟩:=aY (fA hA 25 61 298 _ _ _ rfl rfl rfl);obtain⟨_,F27⟩:=aY (fA hA 26 63 303 _ _ _ rfl rfl rfl);obtain⟨_,F28⟩:=aY (fA hA 27 65 315 _ _ _ rfl rfl rfl);obtain⟨_,F29⟩:=aY (fA hA 28 67 258 _ _ _ rfl rfl rfl);obtain⟨_,F30⟩:=aY (fA hA 29 69 293 _ _ _ rfl rfl rfl);obtain⟨_,F31⟩:=aY (fA hA 30 71 272 _ _ _ rfl rfl rfl);obtain⟨_,F32⟩:=aY (fA hA 31 73 279 _ _ _ rfl rfl rfl);obtain⟨_,F33⟩:=aY (fA hA 32 75 286 _ _ _ rfl rfl rfl);obtain⟨_,F34⟩:=aY (fA hA 33 77 265 _ _ _ rfl rfl rfl);obtain⟨_,F35⟩:=aY (fA hA 34 79 251 _ _ _ rfl rfl rfl);obtain⟨_,F36⟩:=aY (fA hA 35 81 320 _ _ _ rfl rfl rfl);obtain⟨_,F37⟩:=aY (fA hA 36 83 332 _ _ _ rfl rfl rfl);obtain⟨_,F38⟩:=aY (fA hA 37 85 327 _ _ _ rfl rfl rfl);obtain⟨_,F39⟩:=aY (fA hA 38 88 346 _ _ _ rfl rfl rfl);obtain⟨_,F40⟩:=aY (fA hA 39 91 433 _ _ _ rfl rfl rfl);obtain⟨_,F41⟩:=aY (fA hA 40 94 426 _ _ _ rfl rfl rfl);obtain⟨_,F42⟩:=aY (fA hA 41 97 440 _ _ _ rfl rfl rfl);obtain⟨_,F43⟩:=aY (fA hA 42 99 454 _ _ _ rfl rfl rfl);obtain⟨_,F44⟩:=aY (fA hA 43 102 353 _ _ _ rfl rfl rfl);obtain⟨_,F45⟩:=aY (fA hA 44 105 367 _ _ _ rfl rfl rfl);obtain⟨_,F46⟩:=aY (fA hA 45 108 374 _ _ _ rfl rfl rfl);obtain⟨_,F47⟩:=aY (fA hA 46 111 412 _ _ _ rfl rfl rfl);obtain⟨_,F48⟩:=aY (fA hA 47 114 419 _ _ _ rfl rfl rfl);obtain⟨_,F49⟩:=aY (fA hA 48 117 386 _ _ _ rfl rfl rfl);obtain⟨_,F50⟩:=aY (fA hA 49 120 393 _ _ _ rfl rfl rfl);obtain⟨_,F51⟩:=aY (fA hA 50 123 400 _ _ _ rfl rfl rfl);obtain⟨_,F52⟩:=aY (fA hA 51 126 405 _ _ _ rfl rfl rfl);obtain⟨_,F53⟩:=aY (fA hA 52 129 468 _ _ _ rfl rfl rfl);obtain⟨_,F54⟩:=aY (fA hA 53 132 475 _ _ _ rfl rfl rfl);obtain⟨_,F55⟩:=aY (fA hA 54 135 599 _ _ _ rfl rfl rfl);obtain⟨_,F56⟩:=aY (fA hA 55 138 571 _ _ _ rfl rfl rfl);obtain⟨_,F57⟩:=aY (fA hA 56 140 620 _ _ _ rfl rfl rfl);obtain⟨_,F58⟩:=aY (fA hA 57 143 606 _ _ _ rfl rfl rfl);obtain⟨_,F59⟩:=aY (fA hA 58 146 592 _ _ _ rfl rfl rfl);obtain⟨_,F60⟩:=aY (fA hA 59 149 585 _ _ _ rfl rfl rfl);obtain⟨_,F61⟩:=aY (fA hA 60 152 578 _ _ _ rfl rfl rfl);obtain⟨_,F62⟩:=aY (fA hA 61 155 564 _ _ _ rfl rfl rfl);obtain⟨_,F63⟩:=aY (fA hA 62 158 557 _ _ _ rfl rfl rfl);obtain⟨_,F64⟩:=aY (fA hA 63 160 627 _ _ _ rfl rfl rfl);obtain⟨_,F65⟩:=aY (fA hA 64 163 496 _ _ _ rfl rfl rfl);obtain⟨_,F66⟩:=aY (fA hA 65 166 529 _ _ _ rfl rfl rfl);obtain⟨_,F67⟩:=aY (fA hA 66 169 536 _ _ _ rfl rfl rfl);obtain⟨_,F68⟩:=aY (fA hA 67 172 543 _ _ _ rfl rfl rfl);obtain⟨_,F69⟩:=aY (fA hA 68 175 550 _ _ _ rfl rfl rfl);obtain⟨_,F70⟩:=aY (fA hA 69 178 522 _ _ _ rfl rfl rfl);obtain⟨_,F71⟩:=aY (fA hA 70 181 503 _ _ _ rfl rfl rfl);obtain⟨_,F72⟩:=aY (fA hA 71 184 515 _ _ _ rfl rfl rfl);obtain⟨_,F73⟩:=aY (fA hA 72 186 641 _ _ _ rfl rfl rfl);obtain⟨_,F74⟩:=aY (fA hA 73 188 634 _ _ _ rfl rfl rfl);obtain⟨_,F75⟩:=aY (fA hA 74 190 648 _ _ _ rfl rfl rfl);obtain⟨_,F76⟩:=aY (fA hA 75 192 663 _ _ _ rfl rfl rfl);obtain⟨_,F77⟩:=aY (fA hA 76 194 670 _ _ _ rfl rfl rfl);obtain⟨_,F78⟩:=aY (fA hA 77 196 684 _ _ _ rfl rfl rfl);obtain⟨_,F79⟩:=aY (fA hA 78 198 677 _ _ _ rfl rfl rfl);obtain⟨_,F80⟩:=aY (fA hA 79 200 653 _ _ _ rfl rfl rfl);obtain⟨_,F81⟩:=aY (fA hA 80 202 689 _ _ _ rfl rfl rfl);obtain⟨_,F82⟩:=aY (fA hA 81 204 694 _ _ _ rfl rfl rfl);obtain⟨_,F83⟩:=aY (fA hA 82 206 658 _ _ _ rfl rfl rfl);obtain⟨_,F84⟩:=aY (fA hA 83 208 701 _ _ _ rfl rfl rfl);obtain⟨_,F85⟩:=aY (fA hA 84 210 706 _ _ _ rfl rfl rfl);obtain⟨_,F86⟩:=aY (fA hA 85 212 720 _ _ _ rfl rfl rfl);obtain⟨_,F87⟩:=aY (fA hA 86 214 713 _ _ _ rfl rfl rfl);obtain⟨_,F88⟩:=aY (fA hA 87 216 727 _ _ _ rfl rfl rfl);obtain⟨_,_,_,kV,dc,pm,an,cd,ct,Ll89,c89,k89⟩:=(fA hA 88 218 732 _ _ _ rfl rfl rfl);have F89:=B0 (st:=md) Ll89 c89 k89;refine⟨fnOf "law" "law" (jV md) (gE md) (aI md) .none kV dc pm an cd ct,λs v=>.of_eq rfl,λb8 _ _=>?_⟩;have G1:=M8 (P:=l.prog) (w:=w) (b8:=b8) B Z F1 (PK X G (eA hA 9 rfl));have G2:=MU (P:=l.prog) (w:=w) (b8:=b8) B Z F2 (PK X G (eA hA 11 rfl));have G3:=ID B Z G1 G2 F3 ⟨(bA hA 267 rfl),(eA hA 13 rfl),(bA hA 14 rfl),(bA hA 268 rfl)⟩;have G4:=Jj (P:=l.prog) (w:=w) (b8:=b8) B Z F4 (PK X G (eA hA 16 rfl));have G5:=Ji B Z G4 F5 (PK X G (eA hA 18 rfl));have G6:=GR (P:=l.prog) (w:=w) (b8:=b8) B Z F6 (PK X G (eA hA 20 rfl));have G7:=Jr (P:=l.prog) (w:=w) (b8:=b8) B Z F7 (PK X G (eA hA 22 rfl));have G8:=Jq B Z G7 F8 (PK X G (eA hA 24 rfl));have G9:=M7 B Z G3 F9 (PK X G (eA hA 26 rfl));have G10:=Ml (P:=l.prog) (w:=w) (b8:=b8) B Z F10 (PK X G (eA hA 28 rfl));have G11:=K9 (P:=l.prog) (w:=w) (b8:=b8) B Z F11 (PK X G (eA hA 30 rfl));have G12:=M6 B Z G11 F12 (PK X G (eA hA 32 rfl));have G13:=MC B Z G12 F13 (PK X G (eA hA 34 rfl));have G14:=MT B Z G13 F14 (PK X G (eA hA 36 rfl));have G15:=MB B Z G14 F15 (PK X G (eA hA 38 rfl));have G16:=MA B Z G11 F16 (PK X G (eA hA 40 rfl));have G17:=NB B Z G16 F17 (PK X G (eA hA 42 rfl));have G18:=Mz B Z G11 G17 F18 (PK X G (eA hA 44 rfl));have G19:=Nj B Z G12 F19 (PK X G (eA hA 46 rfl));have G20:=Mx B Z G11 G13 G16 G18 G19 F20 (PK X G (eA hA 48 rfl));have G21:=Ni B Z G11 G20 F21 (PK X G (eA hA 50 rfl));have G22:=Nh B Z G14 F22 (PK X G (eA hA 52 rfl));have G23:=Jf B Z G15 G21 G22 F23 (PK X G (eA hA 54 rfl));have G24:=Jo B Z G1 G11 G6 G8 F24 (PK X G (eA hA 56 rfl));have G25:=Mw B Z G6 F25 (PK X G (eA hA 58 rfl));have G26:=Mi B Z G1 F26 (PK X G (eA hA 60 rfl));have G27:=Mv B Z G8 F27 (PK X G (eA hA 62 rfl));have G28:=LJ (P:=l.prog) (w:=w) (b8:=b8) B Z F28 (PK X G (eA hA 64 rfl));have G29:=M5 B Z G6 G25 G26 G27 G28 G24 F29 (PK X G (eA hA 66 rfl));have G30:=Ng B Z G6 G25 G26 G27 F30 (PK X G (eA hA 68 rfl));have G31:=Nf B Z G7 G6 G25 G26 G27 G28 F31 (PK X G (eA hA 70 rfl));have G32:=Nd B Z G7 G6 G25 G26 G27 G28 F32 (PK X G (eA hA 72 rfl));have G33:=Nc B Z G7 G26 G28 F33 (PK X G (eA hA 74 rfl));have G34:=Nb B Z G25 G26 G27 G24 G30 G31 G32 G33 F34 (PK X G (eA hA 76 rfl));have G35:=Jn B Z G10 G29 G34 F35 (PK X G (eA hA 78 rfl));have G36:=Jd B Z G7 F36 (PK X G (eA hA 80 rfl));have G37:=NJ (P:=l.prog) (w:=w) (b8:=b8) B Z F37 (PK X G (eA hA 82 rfl));have G38:=Jm B Z G37 G36 F38 (PK X G (eA hA 84 rfl));have G39:=GN (P:=l.prog) (w:=w) (b8:=b8) B Z F39 ⟨(bA hA 277 rfl),(eA hA 86 rfl),(bA hA 87 rfl),(bA hA 278 rfl)⟩;have G40:=M4 (P:=l.prog) (w:=w) (b8:=b8) B Z F40 ⟨(eA hA 89 rfl),(bA hA 90 rfl),F40.kp⟩;have G41:=NE B Z G10 F41 ⟨(eA hA 92 rfl),(bA hA 93 rfl),F41.kp⟩;have G42:=NK B Z G41 G40 F42 ⟨(eA hA 95 rfl),(bA hA 96 rfl),F42.kp⟩;have G43:=Mh (P:=l.prog) (w:=w) (b8:=b8) B Z F43 (PK X G (eA hA 98 rfl));have G44:=LH B Z G40 G9 G23 G42 G43 F44 ⟨(eA hA 100 rfl),(bA hA 101 rfl),F44.kp⟩;have G45:=Nm (P:=l.prog) (w:=w) (b8:=b8) B Z F45 ⟨(eA hA 103 rfl),(bA hA 104 rfl),F45.kp⟩;have G46:=Na B Z G9 G45 F46 ⟨(eA hA 106 rfl),(bA hA 107 rfl),F46.kp⟩;have G47:=NA (P:=l.prog) (w:=w) (b8:=b8) B Z F47 ⟨(eA hA 109 rfl),(bA hA 110 rfl),F47.kp⟩;have G48:=ND B Z G47 G35 F48 ⟨(eA hA 112 rfl),(bA hA 113 rfl),F48.kp⟩;have G49:=Mg B Z G38 G48 F49 ⟨(eA hA 115 rfl),(bA hA 116 rfl),F49.kp⟩;have G50:=Mf (P:=l.prog) (w:=w) (b8:=b8) B Z F50 ⟨(eA hA 118 rfl),(bA hA 119 rfl),F50.kp⟩;have G51:=Mu B Z G41 F51 ⟨(eA hA 121 rfl),(bA hA 122 rfl),F51.kp⟩;have G52:=Mt B Z G50 G51 F52 ⟨(eA hA 124 rfl),(bA hA 125 rfl),F52.kp⟩;have G53:=Jb (P:=l.prog) (w:=w) (b8:=b8) B Z F53 ⟨(bA hA 285 rfl),(eA hA 127 rfl),(bA hA 128 rfl),(bA hA 286 rfl)⟩;have G54:=Nl (P:=l.prog) (w:=w) (b8:=b8) B Z F54 ⟨(eA hA 130 rfl),(bA hA 131 rfl),F54.kp⟩;have G55:=M3 (P:=l.prog) (w:=w) (b8:=b8) B Z F55 ⟨(eA hA 133 rfl),(bA hA 134 rfl),F55.kp⟩;have G56:=NL B Z G55 F56 ⟨(eA hA 136 rfl),(bA hA 137 rfl),F56.kp⟩;have G57:=MM B Z G5 F57 (PK X G (eA hA 139 rfl));have G58:=Me B Z G57 F58 ⟨(eA hA 141 rfl),(bA hA 142 rfl),F58.kp⟩;have G59:=LG B Z G55 F59 ⟨(eA hA 144 rfl),(bA hA 145 rfl),F59.kp⟩;have G60:=Md B Z G55 G58 G54 G59 F60 ⟨(eA hA 147 rfl),(bA hA 148 rfl),F60.kp⟩;have G61:=Nv B Z G55 G58 G54 F61 ⟨(eA hA 150 rfl),(bA hA 151 rfl),F61.kp⟩;have G62:=ML B Z G56 G60 G61 F62 ⟨(eA hA 153 rfl),(bA hA 154 rfl),F62.kp⟩;have G63:=Mc B Z G62 G53 F63 ⟨(eA hA 156 rfl),(bA hA 157 rfl),F63.kp⟩;have G64:=Nk (P:=l.prog) (w:=w) (b8:=b8) B Z F64 (PK X G (eA hA 159 rfl));have G65:=GE B Z G57 G63 G64 G46 F65 ⟨(bA hA 295 rfl),(eA hA 161 rfl),(bA hA 162 rfl),(bA hA 296 rfl)⟩;have G66:=K7 B Z G62 F66 ⟨(eA hA 164 rfl),(bA hA 165 rfl),F66.kp⟩;have G67:=L0 B Z G66 F67 ⟨(eA hA 167 rfl),(bA hA 168 rfl),F67.kp⟩;have G68:=LZ B Z G58 G54 G62 F68 ⟨(eA hA 170 rfl),(bA hA 171 rfl),F68.kp⟩;have G69:=LY B Z G58 G63 G64 F69 ⟨(eA hA 173 rfl),(bA hA 174 rfl),F69.kp⟩;have G70:=LX B Z G4 G55 G5 G54 G62 G66 G67 G68 G69 F70 ⟨(eA hA 176 rfl),(bA hA 177 rfl),F70.kp⟩;have G71:=Jl B Z G70 F71 ⟨(eA hA 179 rfl),(bA hA 180 rfl),F71.kp⟩;have G72:=Ms (P:=l.prog) (w:=w) (b8:=b8) B Z F72 ⟨(eA hA 182 rfl),(bA hA 183 rfl),F72.kp⟩;have G73:=I_ (P:=l.prog) (w:=w) (b8:=b8) B Z F73 (PK X G (eA hA 185 rfl));have G74:=Mb (P:=l.prog) (w:=w) (b8:=b8) B Z F74 (PK X G (eA hA 187 rfl));have G75:=LW B Z G73 F75 (PK X G (eA hA 189 rfl));have G76:=Jk B Z G75 F76 (PK X G (eA hA 191 rfl));have G77:=M1 B Z G73 G75 G76 F77 (PK X G (eA hA 193 rfl));have G78:=Ny B Z G76 G77 F78 (PK X G (eA hA 195 rfl));have G79:=M0 B Z G77 F79 (PK X G (eA hA 197 rfl));have G80:=JR (P:=l.prog) (w:=w) (b8:=b8) B Z F80 (PK X G (eA hA 199 rfl));have G81:=Nx B Z G78 G79 G80 F81 (PK X G (eA hA 201 rfl));have G82:=MZ B Z G73 G74 G81 F82 (PK X G (eA hA 203 rfl));have G83:=Ma B Z G73 G75 F83 (PK X G (eA hA 205 rfl));have G84:=L_ B Z G73 G75 G83 F84 (PK X G (eA hA 207 rfl));have G85:=L9 B Z G73 G84 F85 (PK X G (eA hA 209 rfl));have G86:=LV B Z G65 F86 (PK X G (eA hA 211 rfl));have G87:=LU B Z G49 F87 (PK X G (eA hA 213 rfl));have G88:=JP B Z G72 F88 (PK X G (eA hA 215 rfl));exact FL B Z G3 G73 G74 G82 G39 G85 G44 G86 G71 G87 G52 G88 F89
end My
open PySem PySem.W PyProof.Rows
open My L2
set_option maxRecDepth 1000000 in
set_option maxHeartbeats 0 in
theorem PySem.Challenge.cw_swornhall_k19_whole_no_word_is_broken_holds : PySem.Challenge.rw_swornhall_k19_whole_no_word_is_broken.Holds := by
  refine PySem.Challenge.hd_swornhall_k19_whole_no_word_is_broken fun d kwd hdef => ?_
  obtain ⟨rfl, rfl⟩ := Prod.mk.inj (OL ((show defOf My.Qv PySem.Challenge.rw_swornhall_k19_whole_no_word_is_broken.row.name = some (_, _) from rfl).symm.trans hdef))
  refine L2.i_ (l := PySem.Challenge.rw_swornhall_k19_whole_no_word_is_broken) (n := 63) (k := 11) (x := "script") (CX := L2.bH) (sp := My.uL) (S := fun K => ((My.e8 K).all id, My.gI K) = (true, My.gH)) rfl (by decide) rfl ⟨rfl, by decide, by decide, rfl⟩ (fun w h Y => Y) ?F (fun _ _ a ns hl _ hS => ⟨a, ns, rfl, hS, hl, fun _ => rfl⟩) (fun _ _ _ _ z => z)
  intro w K mg fa h hA KX G hmg
  exact My.mZ KX G hmg hA
