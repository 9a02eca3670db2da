import PyProof.Rows.All
import Wide.All
import OpenK.AllK
import Wide.FinOn
import Lean
import PyProof.EqAt
import PyProof.EqKinds
import PyProof.TupleCall
import PySem.Challenge.RW_swornhall_k07_right_crafts
set_option Elab.async false
set_option linter.all false
set_option maxRecDepth 100000
/-! THE HAND LAYER, for ints, bools, texts, own classes, LISTS and tuples (index, slices, in, append, pop ..), calls, loops. Paste it whole ahead of your own text; what your proof does not reach may be deleted. -/
namespace L2
open PySem PySem.Spec PyProof.Rows

/-- a key: an int or a str -/
abbrev Key := Sum Int Str
def keyIs : Key → Value → Bool
  | .inl k, v => Value.isInt k v
  | .inr x, v => Value.isStrOf x v
def keyH (w : World) : Key → Int
  | .inl k => hashInt k
  | .inr x => hashStr w x
theorem keyIs_shape : ∀ {k : Key} {v : Value}, keyIs k v = true → (∃ i t, k = Sum.inl i ∧ v = Value.int i t) ∨ (∃ x t, k = Sum.inr x ∧ v = Value.str x t)
  | .inl i, v, h => by
    obtain ⟨t, e⟩ := Value.isInt_shape (k := i) (v := v) h
    exact .inl ⟨i, t, rfl, e⟩
  | .inr x, v, h => by
    obtain ⟨t, e⟩ := Value.isStrOf_shape (x := x) (v := v) h
    exact .inr ⟨x, t, rfl, e⟩
theorem keyIs_int (i : Int) (t : Tok) : keyIs (.inl i) (.int i t) = true := by simp [keyIs, Value.isInt]
theorem keyIs_str (x : Str) (t : Tok) : keyIs (.inr x) (.str x t) = true := by simp [keyIs, Value.isStrOf]
theorem key_ll (a b : Int) : decide ((Sum.inl a : Key) = Sum.inl b) = (a == b) := by
  by_cases e : a = b
  · subst e; simp
  · have h : ¬ (Sum.inl a : Key) = Sum.inl b := fun q => e (Sum.inl.inj q)
    rw [decide_eq_false h]
    exact (beq_eq_false_iff_ne.mpr e).symm
theorem key_rr (a b : Str) : decide ((Sum.inr a : Key) = Sum.inr b) = decide (a = b) := by
  by_cases e : a = b
  · subst e; simp
  · have h : ¬ (Sum.inr a : Key) = Sum.inr b := fun q => e (Sum.inr.inj q)
    rw [decide_eq_false h, decide_eq_false e]
theorem key_lr (a : Int) (b : Str) : decide ((Sum.inl a : Key) = Sum.inr b) = false := decide_eq_false (fun q => nomatch q)
theorem key_rl (a : Str) (b : Int) : decide ((Sum.inr a : Key) = Sum.inl b) = false := decide_eq_false (fun q => nomatch q)

def mixKind (prog : Program) (w : World) : PySem.KeyKind prog w Key where
  is := keyIs
  hash := keyH w
  inj := fun v a b ha hb => by
    rcases keyIs_shape ha with ⟨i, t, rfl, rfl⟩ | ⟨x, t, rfl, rfl⟩
    · rcases keyIs_shape hb with ⟨j, u, rfl, e⟩ | ⟨y, u, rfl, e⟩
      · injection e with e1 _; rw [e1]
      · exact nomatch e
    · rcases keyIs_shape hb with ⟨j, u, rfl, e⟩ | ⟨y, u, rfl, e⟩
      · exact nomatch e
      · injection e with e1 _; rw [e1]
  byValue := fun k v h => by
    rcases keyIs_shape h with ⟨i, t, rfl, rfl⟩ | ⟨x, t, rfl, rfl⟩ <;> rfl
  pyHash := fun hv h => by
    rcases keyIs_shape hv with ⟨i, t, rfl, rfl⟩ | ⟨x, t, rfl, rfl⟩
    · exact wpAny_pyHash_int h
    · exact wpAny_pyHash_str h
  eqBool := fun hu hv h => by
    rcases keyIs_shape hu with ⟨i, t, rfl, rfl⟩ | ⟨x, t, rfl, rfl⟩
    · rcases keyIs_shape hv with ⟨j, u, rfl, rfl⟩ | ⟨y, u, rfl, rfl⟩
      · rw [key_ll] at h; exact wpAny_eqBool_int h
      · rw [key_lr] at h; exact SeqAt.EqAt.int_str i t y u _ _ _ _ h
    · rcases keyIs_shape hv with ⟨j, u, rfl, rfl⟩ | ⟨y, u, rfl, rfl⟩
      · rw [key_rl] at h; exact SeqAt.EqAt.str_int x t j u _ _ _ _ h
      · rw [key_rr] at h; exact wpAny_eqBool_str h
  «strs» := fun k x t v h => by
    rcases keyIs_shape h with ⟨i, u, rfl, e⟩ | ⟨y, u, rfl, e⟩
    · exact nomatch e
    · injection e with e1 _
      subst e1
      cases v <;> rfl

theorem mixKind_is (prog : Program) (w : World) (k : Key) (v : Value) : (mixKind prog w).is k v = keyIs k v := rfl
theorem mixKind_int (prog : Program) (w : World) (i : Int) (t : Tok) : (mixKind prog w).is (.inl i) (.int i t) = true := keyIs_int i t
theorem mixKind_str (prog : Program) (w : World) (x : Str) (t : Tok) : (mixKind prog w).is (.inr x) (.str x t) = true := keyIs_str x t
end L2

namespace L2
open PySem PySem.Spec PyProof.Rows

/-- a value, without the heap -/
inductive V where
  | non | bl (b : Bool) | int (i : Int) | str (x : Str) | byt (b : Array UInt8) | flt (b : UInt64) | ref (a : Addr) | ty (n : String)
  deriving DecidableEq

def RelV : V → Value → Prop
  | .non, u => u = Value.none
  | .bl b, u => u = Value.bool b
  | .int i, u => ∃ t, u = Value.int i t
  | .str x, u => ∃ t, u = Value.str x t
  | .byt b, u => ∃ t, u = Value.bytes b t
  | .flt b, u => ∃ t, u = Value.float b t
  | .ref a, u => u = Value.ref a
  | .ty n, u => u = Value.type n

abbrev Vals : List V → List Value → Prop := Paired RelV
theorem Vals.length {xs : List V} {us : List Value} (r : Vals xs us) : xs.length = us.length := Paired.length r
theorem Vals.get : ∀ {xs : List V} {us : List Value} {i : Nat} {x : V}, Vals xs us → xs[i]? = some x → ∃ u, us[i]? = some u ∧ RelV x u
  | _, _, _, _, .nil, e => by simp at e
  | _, _, 0, _, .cons r _, e => by simp at e; subst e; exact ⟨_, rfl, r⟩
  | _, _, i + 1, x, .cons _ t, e => by
    obtain ⟨u, h1, h2⟩ := Vals.get (i := i) (x := x) t (by simpa using e)
    exact ⟨u, by simpa using h1, h2⟩
theorem Vals.set {x : V} {u : Value} (r : RelV x u) : ∀ {xs : List V} {us : List Value} (i : Nat), Vals xs us → Vals (xs.set i x) (us.set i u)
  | _, _, _, .nil => .nil
  | _, _, 0, .cons _ t => .cons r t
  | _, _, i + 1, .cons q t => .cons q (Vals.set r i t)
theorem Vals.append : ∀ {xs ys : List V} {us ws : List Value}, Vals xs us → Vals ys ws → Vals (xs ++ ys) (us ++ ws)
  | _, _, _, _, .nil, s => s
  | _, _, _, _, .cons r t, s => .cons r (Vals.append t s)
theorem Vals.take : ∀ {xs : List V} {us : List Value} (n : Nat), Vals xs us → Vals (xs.take n) (us.take n)
  | _, _, 0, _ => .nil
  | _, _, _ + 1, .nil => .nil
  | _, _, n + 1, .cons r t => .cons r (Vals.take n t)
theorem Vals.drop : ∀ {xs : List V} {us : List Value} (n : Nat), Vals xs us → Vals (xs.drop n) (us.drop n)
  | _, _, 0, r => r
  | _, _, _ + 1, .nil => .nil
  | _, _, n + 1, .cons _ t => Vals.drop n t
theorem Vals.none_of : ∀ {xs : List V} {us : List Value} {i : Nat}, Vals xs us → xs[i]? = none → us[i]? = none := fun {xs us i} r e => by
  have h1 := r.length
  have h2 : xs.length ≤ i := List.getElem?_eq_none_iff.mp e
  exact List.getElem?_eq_none_iff.mpr (by omega)

def RelO : Option V → Option Value → Prop
  | some v, some u => RelV v u
  | none, none => True
  | _, _ => False
def KV {κ : Type} : List (κ × V) → List (κ × Value) → Prop := Paired fun (p : κ × V) (q : κ × Value) => p.1 = q.1 ∧ RelV p.2 q.2

/-- a key of a dict (00_mix): an int or a text -/
def kV : Key → V
  | .inl i => .int i
  | .inr x => .str x

/-- what stands at a tracked address -/
inductive HO where
  /-- a list -/
  | lst (xs : List V)
  /-- a tuple (never changes) -/
  | tup (xs : List V)
  /-- a dict whose keys are ints and texts; one whose keys are tuples of ints and texts (the empty one is both) -/
  | dK (kvs : List (Key × V)) | dT (kvs : List (List Key × V))
  /-- a set of ints: its members, its size -/
  | set (S : Int → Bool) (n : Nat)
  /-- an instance of the class at C, its dict at dx, its attributes -/
  | ins (C dx : Addr) (fs : List (Str × V))
  /-- the dict of the instance at x -/
  | own (x : Addr)
  /-- the dict of an exception -/
  | xd (fs : List (Str × V))
  /-- a bound method, f of x -/
  | met (f x : Addr)
  /-- a range object lo, lo + 1, .. below hi -/
  | rng (lo hi : Int)
  /-- a thing that is known to the object (the script; a dict while a loop walks it): read, never written while it is so -/
  | frz (o : Obj) (u : HO)
  /-- a code object's table -/
  | tbl (ps : Array Value)
  /-- any other thing, by what is true of its one object (a def of one's own: SetO a S n := HO.ext fun h => ..) -/
  | ext (φ : Heap → Prop)

abbrev Hp := Addr → Option HO
def upd (H : Hp) (a : Addr) (o : HO) : Hp := fun b => if b = a then some o else H b
theorem upd_same {H : Hp} {a : Addr} {o : HO} : upd H a o a = some o := by unfold upd; rw [if_pos rfl]
theorem upd_ne {H : Hp} {a b : Addr} {o : HO} (h : b ≠ a) : upd H a o b = H b := by unfold upd; rw [if_neg h]
theorem upd_upd {H : Hp} {a : Addr} {o u : HO} : upd (upd H a o) a u = upd H a u := by
  funext b; unfold upd; split <;> rfl
/-- two objects of different content stand apart -/
theorem ne_of {H : Hp} {a b : Addr} {o u : HO} (h : H a = some o) (h' : H b = some u) (d : o ≠ u) : a ≠ b := by
  intro e; subst e; rw [h] at h'; exact d (Option.some.inj h')
theorem ne_of_none {H : Hp} {a b : Addr} {o : HO} (h : H a = some o) (h' : H b = none) : a ≠ b := by
  intro e; subst e; rw [h] at h'; cases h'

section
variable (P : Program) (w : World)
def ObjOk (H : Hp) (h : Heap) (a : Addr) : HO → Prop
  | .lst xs => xs.length ≤ sizeLine ∧ ∃ (its : List Value) (n : Nat), Vals xs its ∧ h.get? a = some { cls := .type "list", data := .seq its.toArray n }
  | .tup xs => xs.length ≤ sizeLine ∧ ∃ its : List Value, Vals xs its ∧ IsTup h a its.toArray
  | .dK kvs => kvs.length ≤ sizeLine ∧ (a == sysModules) = false ∧ ∃ vs, KV kvs vs ∧ h.DictOf (mixKind P w) a vs
  | .dT kvs => kvs.length ≤ sizeLine ∧ (a == sysModules) = false ∧ ∃ xs : List (List Key × Addr × Value),
      Paired (fun (p : List Key × V) (q : List Key × Addr × Value) => p.1 = q.1 ∧ H q.2.1 = some (.tup (p.1.map kV)) ∧ RelV p.2 q.2.2) kvs xs ∧
      ∃ o es ep, h.get? a = some o ∧ o.ExactDict ∧ o.data = .dict es ep ∧ es.toList = xs.map (entryOfKey (tupleKind (mixKind P w))) ∧ (xs.map (·.1)).Nodup
  | .set S n => h.SetOf (intKind P w) a S n
  | .ins C dx fs => H dx = some (.own a) ∧ fs.length ≤ 1000 ∧ dx ≠ a ∧ h.get? a = some (PySem.W.instObj C dx) ∧
      ∃ mA, h.Ns1 dx mA ∧ (∀ f, RelO (fs.lookup f) (mA f)) ∧ PySem.Within mA (fs.map (·.1))
  | .own _ => ∃ o, h.get? a = some o
  | .xd fs => ∃ mA, h.Ns1 a mA ∧ ∀ f, RelO (fs.lookup f) (mA f)
  | .rng lo hi => ∃ t u v, h.get? a = some { cls := .type "range", data := .fields #[.int lo t, .int hi u, .int 1 v] }
  | .frz o u => h.get? a = some o ∧ ObjOk H h a u
  | .tbl ps => h.get? a = some { cls := .none, data := .fields ps }
  | .met f x => h.get? a = some (PySem.W.methodObj (.ref f) (.ref x))
  | .ext φ => φ h ∧ (∃ o, h.get? a = some o) ∧ ∀ h1 h2 : Heap, φ h1 → (∀ o, h1.get? a = some o → h2.get? a = some o) → φ h2
/-- the abstract heap is held -/
def HOk (H : Hp) (h : Heap) : Prop := ∀ a o, H a = some o → ObjOk P w H h a o
end

section
variable {P : Program} {w : World} {H H' : Hp} {h h' : Heap} {a : Addr} {o : HO}
theorem ObjOk.lt (x : ObjOk P w H h a o) : a < h.objs.size := by
  cases o with
  | lst xs => obtain ⟨_, _, _, _, e⟩ := x; exact Heap.lt_size e
  | tup xs => obtain ⟨_, _, _, p⟩ := x; exact p.lt
  | dK kvs => obtain ⟨_, _, _, _, o, _, _, e, _⟩ := x; exact Heap.lt_size e
  | dT kvs => obtain ⟨_, _, _, _, o, _, _, e, _⟩ := x; exact Heap.lt_size e
  | set S n => obtain ⟨o, _, _, _, e, _⟩ := x; exact Heap.lt_size e
  | ins C dx fs => obtain ⟨_, _, _, e, _⟩ := x; exact Heap.lt_size e
  | own y => obtain ⟨_, e⟩ := x; exact Heap.lt_size e
  | xd fs => obtain ⟨_, ⟨_, _, _, e, _⟩, _⟩ := x; exact Heap.lt_size e
  | rng lo hi => obtain ⟨_, _, _, e⟩ := x; exact Heap.lt_size e
  | frz ob u => obtain ⟨e, _⟩ := x; exact Heap.lt_size e
  | tbl ps => exact Heap.lt_size (show h.get? a = some _ from x)
  | met f y => exact Heap.lt_size (show h.get? a = some _ from x)
  | ext φ => obtain ⟨_, ⟨_, e⟩, _⟩ := x; exact Heap.lt_size e
theorem Paired.mapP {α β : Type} {F G : α → β → Prop} : ∀ {l₁ : List α} {l₂ : List β}, Paired F l₁ l₂ → (∀ a b, F a b → G a b) → Paired G l₁ l₂
  | _, _, .nil, _ => .nil
  | _, _, .cons r t, f => .cons (f _ _ r) (Paired.mapP t f)
theorem Paired.imp' {α β : Type} {F G : α → β → Prop} (f : ∀ a b, F a b → G a b) {l₁ : List α} {l₂ : List β} (r : Paired F l₁ l₂) : Paired G l₁ l₂ := Paired.mapP r f
/-- what an object's description leans on: its own object, its own dict, the tuples -/
theorem ObjOk.stay (x : ObjOk P w H h a o) (k : ∀ b u, (b = a ∨ H b = some (.own a)) → h.get? b = some u → h'.get? b = some u)
    (ho : ∀ b, H b = some (.own a) → H' b = some (.own a)) (ht : ∀ b xs, H b = some (.tup xs) → H' b = some (.tup xs)) : ObjOk P w H' h' a o := by
  induction o with
  | lst xs => obtain ⟨z, its, n, r, e⟩ := x; exact ⟨z, its, n, r, k _ _ (.inl rfl) e⟩
  | tup xs => obtain ⟨z, its, r, ob, e, c⟩ := x; exact ⟨z, its, r, ob, k _ _ (.inl rfl) e, c⟩
  | dK kvs => obtain ⟨z, y, vs, r, ob, es, ep, e, c⟩ := x; exact ⟨z, y, vs, r, ob, es, ep, k _ _ (.inl rfl) e, c⟩
  | dT kvs =>
    obtain ⟨z, y, xs, r, ob, es, ep, e, c⟩ := x
    exact ⟨z, y, xs, Paired.mapP r fun p q z => ⟨z.1, ht _ _ z.2.1, z.2.2⟩, ob, es, ep, k _ _ (.inl rfl) e, c⟩
  | set S n => obtain ⟨ob, es, ep, t, e, c⟩ := x; exact ⟨ob, es, ep, t, k _ _ (.inl rfl) e, c⟩
  | ins C dx fs =>
    obtain ⟨d, z, ne, e, mA, ⟨od, es, ep, e2, c⟩, r⟩ := x
    exact ⟨ho _ d, z, ne, k _ _ (.inl rfl) e, mA, ⟨od, es, ep, k _ _ (.inr d) e2, c⟩, r⟩
  | own y => obtain ⟨ob, e⟩ := x; exact ⟨ob, k _ _ (.inl rfl) e⟩
  | xd fs => obtain ⟨mA, ⟨od, es, ep, e, c⟩, r⟩ := x; exact ⟨mA, ⟨od, es, ep, k _ _ (.inl rfl) e, c⟩, r⟩
  | rng lo hi => obtain ⟨t, u, v, e⟩ := x; exact ⟨t, u, v, k _ _ (.inl rfl) e⟩
  | frz ob u ih => obtain ⟨e, q⟩ := x; exact ⟨k _ _ (.inl rfl) e, ih q⟩
  | tbl ps =>
    have e : h.get? a = some { cls := .none, data := .fields ps } := x
    show h'.get? a = some { cls := .none, data := .fields ps }
    exact k a _ (.inl rfl) e
  | met f y =>
    have e : h.get? a = some (PySem.W.methodObj (.ref f) (.ref y)) := x
    show h'.get? a = some (PySem.W.methodObj (.ref f) (.ref y))
    exact k a _ (.inl rfl) e
  | ext φ => obtain ⟨p, ⟨o, e⟩, st⟩ := x; exact ⟨st _ _ p fun o q => k _ _ (.inl rfl) q, ⟨o, k _ _ (.inl rfl) e⟩, st⟩
theorem HOk.lt (x : HOk P w H h) (e : H a = some o) : a < h.objs.size := (x a o e).lt
theorem HOk.fresh (x : HOk P w H h) (e : h.objs.size ≤ a) : H a = none := by
  cases q : H a with
  | none => rfl
  | some u => exact absurd (Nat.lt_of_lt_of_le (x.lt q) e) (Nat.lt_irrefl _)
/-- every object of the heap is kept -/
theorem HOk.kept (x : HOk P w H h) (k : ∀ b u, h.get? b = some u → h'.get? b = some u) : HOk P w H h' := fun a o e =>
  (x a o e).stay (fun b u _ q => k b u q) (fun _ q => q) fun _ _ q => q
/-- a new object is laid and tracked -/
theorem HOk.laid (x : HOk P w H h) (k : ∀ b u, h.get? b = some u → h'.get? b = some u) (hp : h.objs.size ≤ a) (new : ObjOk P w (upd H a o) h' a o) : HOk P w (upd H a o) h' := fun b u e => by
  have hn := x.fresh hp
  by_cases hb : b = a
  · subst hb; rw [upd_same] at e; cases e; exact new
  · rw [upd_ne hb] at e
    exact (x b u e).stay (fun c v _ q => k c v q) (fun c q => by rw [upd_ne (ne_of_none q hn)]; exact q) fun c xs q => by rw [upd_ne (ne_of_none q hn)]; exact q
end

/-- what may be read as u: it is u, or a known u -/
def Rd (H : Hp) (a : Addr) (u : HO) : Prop := H a = some u ∨ ∃ o, H a = some (.frz o u)
theorem Rd.of {H : Hp} {a : Addr} {u : HO} (h : H a = some u) : Rd H a u := .inl h
theorem Rd.ok {P : Program} {w : World} {H : Hp} {h : Heap} {a : Addr} {u : HO} (r : Rd H a u) (x : HOk P w H h) : ObjOk P w H h a u := by
  rcases r with r | ⟨o, r⟩
  · exact x a u r
  · obtain ⟨_, q⟩ := x a _ r
    exact q
/-- what may be written -/
def Mut : Option HO → Prop
  | some (.lst _) => True
  | some (.dK _) => True
  | some (.dT _) => True
  | some (.set _ _) => True
  | some (.ins _ _ _) => True
  | some (.ext _) => True
  | _ => False
section
variable {P : Program} {w : World} {H : Hp} {h h' : Heap} {x e : Addr} {o' : HO}
/-- the object at e is changed: x itself, or the dict of the instance x -/
theorem HOk.write (ok : HOk P w H h) (mu : Mut (H x)) (he : e = x ∨ H e = some (.own x)) (k : ∀ b u, b ≠ e → h.get? b = some u → h'.get? b = some u) (heo : ∃ u, h'.get? e = some u)
    (new : ObjOk P w (upd H x o') h' x o') : HOk P w (upd H x o') h' := fun b u q => by
  have nown : ∀ c y, H c = some (.own y) → c ≠ x := fun c y r z => by subst z; rw [r] at mu; exact mu
  have ntup : ∀ c xs, H c = some (.tup xs) → c ≠ x := fun c xs r z => by subst z; rw [r] at mu; exact mu
  by_cases hb : b = x
  · subst hb; rw [upd_same] at q; cases q; exact new
  · rw [upd_ne hb] at q
    by_cases hbe : b = e
    · have q' : H b = some (.own x) := by
        rcases he with z | z
        · exact absurd (hbe.trans z) hb
        · rw [hbe]; exact z
      rw [q] at q'; cases q'
      obtain ⟨v, hv⟩ := heo
      exact ⟨v, by rw [hbe]; exact hv⟩
    · refine (ok b u q).stay (fun c v hc r => k c v ?_ r) (fun c r => by rw [upd_ne (nown c b r)]; exact r) fun c xs r => by rw [upd_ne (ntup c xs r)]; exact r
      rcases hc with rfl | hc
      · exact hbe
      · rintro rfl
        rcases he with z | z
        · exact nown c b hc z
        · rw [hc] at z; cases z; exact hb rfl
end

/-! ### kept unless tracked; of the frames at fs (the callers') the slots may change (an exception that passes writes there); of the records at ex (iterators) nothing is said -/
structure Un (fs ex : List Addr) (H H' : Hp) (h h' : Heap) : Prop where
  keep : ∀ b o, h.get? b = some o → H b = none → b ∉ fs → b ∉ ex → h'.get? b = some o
  slot : ∀ b o, h.get? b = some o → H b = none → b ∈ fs → b ∉ ex → ∃ sl, h'.get? b = some { o with slots := sl }
  free : ∀ b o, h.get? b = some o → H b = none → b ∉ ex → H' b = none
  there : ∀ b o, h.get? b = some o → b ∉ ex → ∃ o', h'.get? b = some o'
  tups : ∀ b xs, H b = some (.tup xs) → H' b = some (.tup xs)
  frzs : ∀ b o u, H b = some (.frz o u) → H' b = some (.frz o u)
  tbls : ∀ b ps, H b = some (.tbl ps) → ∃ more, H' b = some (.tbl (ps ++ more))
section
variable {fs fs' ex ex' : List Addr} {H H1 H2 : Hp} {h h1 h2 h' : Heap} {a x e : Addr} {o : HO}
theorem Un.any (u : Un fs ex H H1 h h1) {b : Addr} {ob : Obj} (q : h.get? b = some ob) (n : H b = none) (hx : b ∉ ex) : ∃ sl, h1.get? b = some { ob with slots := sl } := by
  by_cases hb : b ∈ fs
  · exact u.slot b ob q n hb hx
  · exact ⟨ob.slots, u.keep b ob q n hb hx⟩
theorem Un.trans (a : Un fs ex H H1 h h1) (b : Un fs ex H1 H2 h1 h2) : Un fs ex H H2 h h2 where
  keep := fun c ob q n hc hx => b.keep c ob (a.keep c ob q n hc hx) (a.free c ob q n hx) hc hx
  slot := fun c ob q n hc hx => by
    obtain ⟨sl, e1⟩ := a.slot c ob q n hc hx
    obtain ⟨sl', e2⟩ := b.slot c _ e1 (a.free c ob q n hx) hc hx
    exact ⟨sl', e2⟩
  free := fun c ob q n hx => by
    obtain ⟨o', e1⟩ := a.there c ob q hx
    exact b.free c o' e1 (a.free c ob q n hx) hx
  there := fun c ob q hx => by
    obtain ⟨o', e1⟩ := a.there c ob q hx
    exact b.there c o' e1 hx
  tups := fun c xs q => b.tups c xs (a.tups c xs q)
  frzs := fun c ob xs q => b.frzs c ob xs (a.frzs c ob xs q)
  tbls := fun c ps q => by
    obtain ⟨m1, e1⟩ := a.tbls c ps q
    obtain ⟨m2, e2⟩ := b.tbls c _ e1
    exact ⟨m1 ++ m2, by rw [e2, Array.append_assoc]⟩
theorem Un.kept (k : ∀ b u, h.get? b = some u → h'.get? b = some u) : Un fs ex H H h h' :=
  ⟨fun b ob q _ _ _ => k b ob q, fun b ob q _ _ _ => ⟨ob.slots, k b ob q⟩, fun _ _ _ n _ => n, fun b ob q _ => ⟨ob, k b ob q⟩, fun _ _ q => q, fun _ _ _ q => q, fun _ ps q => ⟨#[], by rw [q]; simp⟩⟩
theorem Un.refl : Un fs ex H H h h := Un.kept fun _ _ q => q
theorem Un.laid (k : ∀ b u, h.get? b = some u → h'.get? b = some u) (hp : h.objs.size ≤ a) (hn : H a = none) : Un fs ex H (upd H a o) h h' where
  keep := fun b u q _ _ _ => k b u q
  slot := fun b u q _ _ _ => ⟨u.slots, k b u q⟩
  free := fun b u q n _ => by rw [upd_ne (Nat.ne_of_lt (Nat.lt_of_lt_of_le (Heap.lt_size q) hp))]; exact n
  there := fun b u q _ => ⟨u, k b u q⟩
  tups := fun b xs q => by rw [upd_ne (ne_of_none q hn)]; exact q
  frzs := fun b u xs q => by rw [upd_ne (ne_of_none q hn)]; exact q
  tbls := fun b ps q => ⟨#[], by rw [upd_ne (ne_of_none q hn), q]; simp⟩
theorem Un.write (mu : Mut (H x)) (he : e = x ∨ H e = some (.own x)) (k : ∀ b u, b ≠ e → h.get? b = some u → h'.get? b = some u) (heo : ∃ u, h'.get? e = some u) : Un fs ex H (upd H x o) h h' := by
  have hx : ∀ b, H b = none → b ≠ x := fun b n z => by subst z; rw [n] at mu; exact mu
  have hb : ∀ b, H b = none → b ≠ e := fun b n z => by
    subst z
    rcases he with r | r
    · exact hx b n r
    · rw [n] at r; cases r
  have hm : ∀ b u, H b = some u → ¬ Mut (some u) → b ≠ x := fun b u q nm z => by subst z; rw [q] at mu; exact nm mu
  refine ⟨fun b u q n _ _ => k b u (hb b n) q, fun b u q n _ _ => ⟨u.slots, k b u (hb b n) q⟩, fun b u q n _ => by rw [upd_ne (hx b n)]; exact n, fun b u q _ => ?_,
    fun b xs q => by rw [upd_ne (hm b _ q fun z => z)]; exact q, fun b u xs q => by rw [upd_ne (hm b _ q fun z => z)]; exact q, fun b ps q => ⟨#[], by rw [upd_ne (hm b _ q fun z => z), q]; simp⟩⟩
  by_cases hbe : b = e
  · subst hbe; exact heo
  · exact ⟨u, k b u hbe q⟩
theorem Un.mono (u : Un fs ex H H1 h h1) (hs : ∀ b ∈ fs, b ∈ fs') (hx : ∀ b ∈ ex, b ∈ ex') : Un fs' ex' H H1 h h1 :=
  ⟨fun b ob q n hb he => u.keep b ob q n (fun z => hb (hs b z)) fun z => he (hx b z), fun _ _ q n _ he => u.any q n fun z => he (hx _ z), fun b ob q n he => u.free b ob q n fun z => he (hx b z), fun b ob q he => u.there b ob q fun z => he (hx b z), u.tups, u.frzs, u.tbls⟩
end

/-! ### the heap without what is tracked -/
def trk (h : Heap) (H : Hp) : List Addr := (List.range h.objs.size).filter fun a => (H a).isSome
def hidT (h : Heap) (H : Hp) : Heap := PySem.W.hideAll h (trk h H)
theorem hidT_size (h : Heap) (H : Hp) : (hidT h H).objs.size = h.objs.size := PySem.W.hideAll_size _ _
theorem hidT_get {h : Heap} {H : Hp} {b : Addr} {o : Obj} (e : h.get? b = some o) (n : H b = none) : (hidT h H).get? b = some o :=
  PySem.W.hideAll_get _ e fun hm => by
    have q : (H b).isSome = true := (List.mem_filter.mp hm).2
    rw [n] at q; simp at q
theorem of_hidT {h : Heap} {H : Hp} {b : Addr} {o : Obj} (e : (hidT h H).get? b = some o) : h.get? b = some o ∧ H b = none := by
  have e' : h.get? b = some o := PySem.W.of_hideAll (trk h H) e
  refine ⟨e', ?_⟩
  cases q : H b with
  | none => rfl
  | some x =>
    have hm : b ∈ trk h H := List.mem_filter.mpr ⟨List.mem_range.mpr (Heap.lt_size e'), by simp [q]⟩
    have z : (hidT h H).get? b = none := PySem.W.hideAll_none (trk h H) hm
    rw [z] at e; cases e

/-! ### OpenK's ledger, filled with every new object but one -/
def allNews (g h : Heap) (L : Addr) : List (Addr × Obj) := (List.range h.objs.size).filterMap fun a => if a = L ∨ (g.get? a).isSome = true then none else (h.get? a).map fun o => (a, o)
theorem mem_allNews {g h : Heap} {L a : Addr} {o : Obj} (h1 : a ≠ L) (h2 : g.get? a = none) (h3 : h.get? a = some o) : (a, o) ∈ allNews g h L :=
  List.mem_filterMap.mpr ⟨a, List.mem_range.mpr (Heap.lt_size h3), by simp [h1, h2, h3]⟩
theorem of_mem_allNews {g h : Heap} {L : Addr} {p : Addr × Obj} (hp : p ∈ allNews g h L) : p.1 ≠ L ∧ g.get? p.1 = none ∧ h.get? p.1 = some p.2 := by
  obtain ⟨b, _, e⟩ := List.mem_filterMap.mp hp
  split at e
  · cases e
  · rename_i hn
    cases q : h.get? b with
    | none => rw [q] at e; simp at e
    | some u =>
      rw [q] at e
      simp only [Option.map_some, Option.some.injEq] at e
      subst e
      refine ⟨fun z => hn (.inl z), ?_, q⟩
      show g.get? b = none
      cases r : g.get? b with
      | none => rfl
      | some v => exact (hn (.inr (by simp [r]))).elim
def rest (g h : Heap) (L d : Addr) : List (Addr × Obj) := (allNews g h L).filter fun p => decide (p.1 ≠ d)
theorem rest_ne {g h : Heap} {L d : Addr} : ∀ p ∈ rest g h L d, p.1 ≠ d := fun p hp => of_decide_eq_true (List.mem_filter.mp hp).2
theorem mem_rest {g h : Heap} {L d a : Addr} {o : Obj} (h1 : a ≠ L) (h2 : g.get? a = none) (h3 : h.get? a = some o) (h4 : a ≠ d) : (a, o) ∈ rest g h L d :=
  List.mem_filter.mpr ⟨mem_allNews h1 h2 h3, decide_eq_true h4⟩
theorem news_all {g h : Heap} {L : Addr} : News g L h (allNews g h L) := fun p hp => let ⟨a, b, c⟩ := of_mem_allNews hp; ⟨c, a, b⟩
theorem news_at {g h : Heap} {L d : Addr} {o : Obj} (h1 : d ≠ L) (h2 : g.get? d = none) (h3 : h.get? d = some o) : News g L h ((d, o) :: rest g h L d) := fun p hp => by
  rcases List.mem_cons.mp hp with rfl | hp
  · exact ⟨h3, h1, h2⟩
  · exact news_all p (List.mem_filter.mp hp).1
/-- behind a rule that changed d alone: all else but the frame is kept -/
theorem kept_of_news {g h h' : Heap} {L d : Addr} {m : Str → Option Value} (k : ∀ b o, g.get? b = some o → h.get? b = some o) (F : Fr g L h' m) (N : News g L h' (rest g h L d)) :
    ∀ b o, b ≠ L → b ≠ d → h.get? b = some o → h'.get? b = some o := fun b o h1 h2 e => by
  cases q : g.get? b with
  | some u =>
    have := k b u q
    rw [e] at this; cases this
    exact F.keep b _ q
  | none => exact (N (b, o) (mem_rest h1 q e h2)).1
end L2

namespace L2
open PySem PySem.Spec PyProof.Rows

/-- the module's facts, over the base: the heap at the law's entry without what is tracked there -/
structure Mod (K : PySem.W.Frag) (mg : Str → Option Value) (base : Heap) : Prop where
  kin : K.In base
  glob : base.Ns mainGlobals mg
  blt : ∃ mb, base.Ns builtinsNs mb ∧ ∀ x : Str, x ≠ "__name__" → mb x = bootBuiltins x
  nolimit : base.NoLimit

/-- the context: a def's body (or a comprehension's block) running. base: fixed through the whole law; s₀, H₀: the entry; outer: the frames whose slots others may change (a def's callers); stack: all frames that run;
   ex: iterators that were made ahead of the entry and are walked here (a comprehension's); fn: the names whose cells were made at the entry (a def: all; a comprehension's block: its own); calm: not within an except suite; pn: pins that every state bears; xe: what is wanted of an exception that leaves the code -/
structure Cx where
  prog : Program
  w : World
  K : PySem.W.Frag
  mg : Str → Option Value
  base : Heap
  A : Around
  N : List Str
  s₀ : Shared
  H₀ : Hp
  env : Env
  outer : List Env
  stack : List Env
  ex : List Addr
  fn : Str → Bool
  calm : Bool
  pn : List (Addr × Obj)
  xe : Value → Shared → Prop
/-- the callers' frames -/
def frs (l : List Env) : List Addr := l.filterMap (·.frame)
abbrev Cx.fs (X : Cx) : List Addr := frs X.outer

def Vis (sc : Scope) (x : Str) : Prop := sc.names.lookup x = some .local ∨ sc.names.lookup x = some .cell ∨ sc.names.lookup x = some .free
def Loc (sc : Scope) (x : Str) : Prop := sc.names.lookup x = some .local ∨ sc.names.lookup x = some .cell
def Look (env : Env) (h : Heap) (m : Str → Option Value) (x : Str) (u : Value) : Prop :=
  (env.kindOf x = some .local ∧ m x = some u) ∨ ((env.kindOf x = some .cell ∨ env.kindOf x = some .free) ∧ ∃ c, env.cells.lookup x = some c ∧ h.IsCell c (some u))

structure Cx.Ok (X : Cx) : Prop where
  mod : Mod X.K X.mg X.base
  kind : X.env.scope.kind = .function
  glob : X.env.globals = mainGlobals
  blt : X.env.builtins = builtinsNs
  above : X.s₀.heap.objs.size ≤ X.env.locals
  inj : ∀ x y c, X.env.cells.lookup x = some c → X.env.cells.lookup y = some c → x = y
  has : ∀ x, (X.env.kindOf x = some .cell ∨ X.env.kindOf x = some .free) → ∃ c, X.env.cells.lookup x = some c
  cab : ∀ x c, X.fn x = true → X.env.cells.lookup x = some c → X.s₀.heap.objs.size ≤ c
  hd : X.calm = true → X.A.handled = none
  frames : X.A.frames = some X.stack
  stk : X.stack = X.outer ∨ (X.stack = X.env :: X.outer ∧ X.env.frame = some X.env.locals)
  exf : ∀ b ∈ X.ex, b ≠ X.env.locals ∧ ∀ x c, X.env.cells.lookup x = some c → c ≠ b
  bs : ∀ b o, X.base.get? b = some o → X.s₀.heap.get? b = some o ∧ X.H₀ b = none
  bsz : X.base.objs.size ≤ X.s₀.heap.objs.size
  noex : ∀ b o, X.base.get? b = some o → b ∉ X.ex
  exfs : ∀ b ∈ X.ex, b ∉ X.fs
  funs : X.s₀.heap.FunFrames X.base X.outer
  frf : ∀ b ∈ X.fs, X.H₀ b = none

structure Inv (X : Cx) (pins : List (Addr × Obj)) (σ : List (Option V)) (H : Hp) (s : Shared) : Prop where
  ok : X.Ok
  os : s.os = X.s₀.os
  bare : AllBare s.gens
  base : Un X.fs X.ex X.H₀ H X.s₀.heap s.heap
  loc : ∃ m, s.heap.Ns X.env.locals m ∧ ∀ (i : Nat) (x : Str) (v : V), X.N[i]? = some x → σ[i]? = some (some v) → Vis X.env.scope x → ∃ u, RelV v u ∧ Look X.env s.heap m x u
  cell : ∀ x c, X.env.cells.lookup x = some c → ∃ v, s.heap.IsCell c v
  free : H X.env.locals = none
  freeC : ∀ x c, X.env.cells.lookup x = some c → H c = none
  pin : ∀ p ∈ X.pn ++ pins, s.heap.get? p.1 = some p.2 ∧ H p.1 = none ∧ p.1 ≠ X.env.locals ∧ p.1 ∉ X.fs ∧ ∀ v, p.2.data ≠ .cell v
  hok : HOk X.prog X.w H s.heap
  len : σ.length = X.N.length

section
variable {X : Cx} {pins : List (Addr × Obj)} {σ : List (Option V)} {H H' : Hp} {s : Shared} {h' : Heap}

theorem Cx.Ok.nofr (ok : X.Ok) {b : Addr} {o : Obj} (e : X.base.get? b = some o) : b ∉ X.fs := fun hb => by
  have := (ok.funs.mem hb).1
  rw [e] at this; cases this
theorem Inv.bs (I : Inv X pins σ H s) : ∀ b o, X.base.get? b = some o → s.heap.get? b = some o ∧ H b = none := fun b o e =>
  ⟨I.base.keep b o (I.ok.bs b o e).1 (I.ok.bs b o e).2 (I.ok.nofr e) (I.ok.noex b o e), I.base.free b o (I.ok.bs b o e).1 (I.ok.bs b o e).2 (I.ok.noex b o e)⟩
theorem Inv.bk (I : Inv X pins σ H s) : ∀ b o, X.base.get? b = some o → s.heap.get? b = some o := fun b o e => (I.bs b o e).1
theorem Inv.mod (I : Inv X pins σ H s) : Mod X.K X.mg X.base := I.ok.mod
theorem Inv.kIn (I : Inv X pins σ H s) : X.K.In s.heap := I.ok.mod.kin.keeps I.bk
theorem Inv.nolimit (I : Inv X pins σ H s) : s.heap.NoLimit := I.ok.mod.nolimit.keeps I.bk
/-- the frame over the base: for OpenK's rules (K.In X.base is I.mod.kin) -/
theorem Inv.fr (I : Inv X pins σ H s) : ∃ m, Fr X.base X.env.locals s.heap m :=
  let ⟨m, hn, _⟩ := I.loc
  ⟨m, hn, I.bk, Nat.le_trans I.ok.bsz I.ok.above⟩
theorem Inv.lt (I : Inv X pins σ H s) : X.env.locals < s.heap.objs.size := let ⟨_, hn, _⟩ := I.loc; hn.lt
theorem Inv.sz (I : Inv X pins σ H s) : X.s₀.heap.objs.size ≤ s.heap.objs.size := Nat.le_trans I.ok.above (Nat.le_of_lt I.lt)
theorem Inv.nofs (I : Inv X pins σ H s) {a : Addr} (h : s.heap.objs.size ≤ a) : a ∉ X.fs := fun hb => by
  obtain ⟨_, o, ho, _⟩ := I.ok.funs.mem hb
  exact absurd (Nat.lt_of_lt_of_le (Heap.lt_size ho) (Nat.le_trans I.sz h)) (Nat.lt_irrefl _)
theorem Inv.cne (I : Inv X pins σ H s) : ∀ x c, X.env.cells.lookup x = some c → c ≠ X.env.locals := fun x c e z => by
  obtain ⟨v, o, ho, hd⟩ := I.cell x c e
  obtain ⟨m, ⟨o', es, ep, ho', hd', _⟩, _⟩ := I.loc
  rw [z, ho'] at ho; cases ho; rw [hd'] at hd; cases hd
theorem Inv.funs (I : Inv X pins σ H s) : s.heap.FunFrames X.base X.outer := by
  have all : ∀ (l : List Env), (∀ b ∈ frs l, b ∈ X.fs) → X.s₀.heap.FunFrames X.base l → s.heap.FunFrames X.base l := by
    intro l
    induction l with
    | nil => intro _ _; trivial
    | cons env r ih =>
      intro hs hl
      obtain ⟨hk, ⟨L, o, hf, hn, ho, hd⟩, hr⟩ := hl
      have hL : L ∈ X.fs := hs L (by unfold frs; rw [List.filterMap_cons, hf]; exact List.mem_cons_self)
      obtain ⟨sl, e⟩ := I.base.slot L o ho (I.ok.frf L hL) hL fun z => I.ok.exfs L z hL
      exact ⟨hk, ⟨L, _, hf, hn, e, hd⟩, ih (fun b hb => hs b (by unfold frs; rw [List.filterMap_cons, hf]; exact List.mem_cons_of_mem _ hb)) hr⟩
  exact all X.outer (fun _ hb => hb) I.ok.funs

/-- the frames that run, for a call -/
theorem Inv.stack (I : Inv X pins σ H s) : s.heap.FunFrames X.base X.stack := by
  rcases I.ok.stk with e | ⟨e, hf⟩
  · rw [e]; exact I.funs
  · rw [e]
    obtain ⟨m, hn, _⟩ := I.loc
    refine .cons (by rw [I.ok.kind]; decide) hf hn ?_ I.funs
    exact Heap.get?_none_of_le (Nat.le_trans I.ok.bsz I.ok.above)
theorem Inv.stkSub (I : Inv X pins σ H s) : ∀ b ∈ frs X.stack, b ∈ X.env.locals :: X.fs := fun b hb => by
  rcases I.ok.stk with e | ⟨e, hf⟩
  · rw [e] at hb; exact List.mem_cons_of_mem _ hb
  · rw [e] at hb
    unfold frs at hb
    rw [List.filterMap_cons, hf] at hb
    exact hb
theorem Inv.stkFree (I : Inv X pins σ H s) : ∀ b ∈ frs X.stack, H b = none := fun b hb => by
  rcases List.mem_cons.mp (I.stkSub b hb) with e | hb
  · rw [e]; exact I.free
  · obtain ⟨_, o, ho, _⟩ := I.ok.funs.mem hb
    exact I.base.free b o ho (I.ok.frf b hb) fun z => I.ok.exfs b z hb

/-- THE STEP: the untracked objects but the frame and the records at ch are kept (the callers' frames up to slots), the frame's map is kept, the new abstract heap is held -/
theorem Inv.step {g' : Array GenState} {t' : Nat} {d' : Drawn} {ch : List Addr} (I : Inv X pins σ H s)
    (hch : ∀ b ∈ ch, (b ∈ X.ex ∨ X.s₀.heap.objs.size ≤ b) ∧ b ≠ X.env.locals ∧ (∀ x c, X.env.cells.lookup x = some c → c ≠ b) ∧ ∀ p ∈ X.pn ++ pins, p.1 ≠ b)
    (keep : ∀ b o, b ≠ X.env.locals → b ∉ X.fs → b ∉ ch → s.heap.get? b = some o → H b = none → h'.get? b = some o)
    (slot : ∀ b o, b ≠ X.env.locals → b ∈ X.fs → b ∉ ch → s.heap.get? b = some o → H b = none → ∃ sl, h'.get? b = some { o with slots := sl }) (free : ∀ b o, b ∉ ch → s.heap.get? b = some o → H b = none → H' b = none)
    (there : ∀ b o, b ∉ ch → s.heap.get? b = some o → ∃ o', h'.get? b = some o')
    (tups : ∀ b xs, H b = some (.tup xs) → H' b = some (.tup xs)) (frzs : ∀ b o u, H b = some (.frz o u) → H' b = some (.frz o u)) (tbls : ∀ b ps, H b = some (.tbl ps) → ∃ more, H' b = some (.tbl (ps ++ more)))
    (ns : ∀ m, s.heap.Ns X.env.locals m → h'.Ns X.env.locals m) (hok : HOk X.prog X.w H' h') (hg : AllBare g') :
    Inv X pins σ H' { s with heap := h', gens := g', drawn := d', toks := t' } := by
  have neL : ∀ b o, X.s₀.heap.get? b = some o → b ≠ X.env.locals := fun b o e => Nat.ne_of_lt (Nat.lt_of_lt_of_le (Heap.lt_size e) I.ok.above)
  have neC : ∀ b o, X.s₀.heap.get? b = some o → b ∉ X.ex → b ∉ ch := fun b o e hx hb => by
    rcases (hch b hb).1 with z | z
    · exact hx z
    · exact absurd (Nat.lt_of_lt_of_le (Heap.lt_size e) z) (Nat.lt_irrefl _)
  have cellK : ∀ x c, X.env.cells.lookup x = some c → ∀ v, s.heap.IsCell c v → h'.IsCell c v := fun x c e v ⟨o, ho, hd⟩ => by
    have nch : c ∉ ch := fun z => (hch c z).2.2.1 x c e rfl
    by_cases hc : c ∈ X.fs
    · obtain ⟨sl, q⟩ := slot c o (I.cne x c e) hc nch ho (I.freeC x c e)
      exact ⟨_, q, hd⟩
    · exact ⟨o, keep c o (I.cne x c e) hc nch ho (I.freeC x c e), hd⟩
  refine ⟨I.ok, I.os, hg, ⟨fun b o e n hb hx => ?_, fun b o e n hb hx => ?_, fun b o e n hx => ?_, fun b o e hx => ?_, fun b xs e => tups b xs (I.base.tups b xs e), fun b o xs e => frzs b o xs (I.base.frzs b o xs e), fun b ps e => ?_⟩, ?_, fun x c e => ?_, ?_, fun x c e => ?_, fun p hp => ?_, hok, I.len⟩
  · exact keep b o (neL b o e) hb (neC b o e hx) (I.base.keep b o e n hb hx) (I.base.free b o e n hx)
  · obtain ⟨sl, e1⟩ := I.base.slot b o e n hb hx
    obtain ⟨sl', e2⟩ := slot b _ (neL b o e) hb (neC b o e hx) e1 (I.base.free b o e n hx)
    exact ⟨sl', e2⟩
  · obtain ⟨o', e1⟩ := I.base.there b o e hx
    exact free b o' (neC b o e hx) e1 (I.base.free b o e n hx)
  · obtain ⟨o', e1⟩ := I.base.there b o e hx
    exact there b o' (neC b o e hx) e1
  · obtain ⟨m1, e1⟩ := I.base.tbls b ps e
    obtain ⟨m2, e2⟩ := tbls b _ e1
    exact ⟨m1 ++ m2, by rw [e2, Array.append_assoc]⟩
  · obtain ⟨m, hn, hl⟩ := I.loc
    refine ⟨m, ns m hn, fun i x v e1 e2 e3 => ?_⟩
    obtain ⟨u, r, l⟩ := hl i x v e1 e2 e3
    refine ⟨u, r, ?_⟩
    rcases l with l | ⟨k, c, e, z⟩
    · exact .inl l
    · exact .inr ⟨k, c, e, cellK x c e _ z⟩
  · obtain ⟨v, z⟩ := I.cell x c e
    exact ⟨v, cellK x c e v z⟩
  · obtain ⟨m, ⟨o, _, _, ho, _⟩, _⟩ := I.loc
    exact free _ o (fun z => (hch _ z).2.1 rfl) ho I.free
  · obtain ⟨v, o, ho, hd⟩ := I.cell x c e
    exact free c o (fun z => (hch c z).2.2.1 x c e rfl) ho (I.freeC x c e)
  · obtain ⟨e, n, ne, nf, d⟩ := I.pin p hp
    have nch : p.1 ∉ ch := fun z => (hch p.1 z).2.2.2 p hp rfl
    exact ⟨keep p.1 p.2 ne nf nch e n, free p.1 p.2 nch e n, ne, nf, d⟩
/-- .. where the frame's own object is kept too -/
theorem Inv.un {t' : Nat} (I : Inv X pins σ H s) (u : Un X.fs [] H H' s.heap h') (hok : HOk X.prog X.w H' h') : Inv X pins σ H' { s with heap := h', toks := t' } := by
  obtain ⟨m, ⟨o, es, ep, ho, r⟩, _⟩ := id I.loc
  obtain ⟨sl, hL⟩ := u.any ho I.free (by simp)
  exact I.step (g' := s.gens) (d' := s.drawn) (ch := []) (fun _ z => nomatch z) (fun b o _ hb _ e n => u.keep b o e n hb (by simp)) (fun b o _ hb _ e n => u.slot b o e n hb (by simp)) (fun b o _ e n => u.free b o e n (by simp)) (fun b o _ e => u.there b o e (by simp)) u.tups u.frzs u.tbls (fun m' hm => by
    obtain ⟨o', es', ep', ho', r'⟩ := hm
    rw [ho] at ho'; cases ho'
    exact ⟨_, es', ep', hL, r'⟩) hok I.bare
/-- behind a call (or a comprehension's block): the slots of this frame may have changed too, the records at ch may have turned -/
theorem Inv.call {g' : Array GenState} {t' : Nat} {d' : Drawn} {ch : List Addr} (I : Inv X pins σ H s) (u : Un (frs X.stack) ch H H' s.heap h') (hok : HOk X.prog X.w H' h') (hg : AllBare g')
    (hch : ∀ b ∈ ch, (b ∈ X.ex ∨ X.s₀.heap.objs.size ≤ b) ∧ b ≠ X.env.locals ∧ (∀ x c, X.env.cells.lookup x = some c → c ≠ b) ∧ ∀ p ∈ X.pn ++ pins, p.1 ≠ b) :
    Inv X pins σ H' { s with heap := h', gens := g', drawn := d', toks := t' } := by
  obtain ⟨m, ⟨o, es, ep, ho, r⟩, _⟩ := id I.loc
  obtain ⟨sl, hL⟩ := u.any ho I.free fun z => (hch _ z).2.1 rfl
  exact I.step (ch := ch) hch (fun b o hL hb hc e n => u.keep b o e n (fun z => (List.mem_cons.mp (I.stkSub b z)).elim hL hb) hc) (fun b o _ _ hc e n => u.any e n hc) (fun b o hc e n => u.free b o e n hc) (fun b o hc e => u.there b o e hc) u.tups u.frzs u.tbls (fun m' hm => by
    obtain ⟨o', es', ep', ho', r'⟩ := hm
    rw [ho] at ho'; cases ho'
    exact ⟨_, es', ep', hL, r'⟩) hok hg
/-- an untracked record of ours (an iterator) has turned -/
theorem Inv.turned {t' : Nat} {it : Addr} (I : Inv X pins σ H s) (k : ∀ b o, b ≠ it → s.heap.get? b = some o → h'.get? b = some o) (hn : H it = none) (hL : it ≠ X.env.locals)
    (h1 : it ∈ X.ex ∨ X.s₀.heap.objs.size ≤ it) (h2 : ∀ x c, X.env.cells.lookup x = some c → c ≠ it) (h3 : ∀ p ∈ X.pn ++ pins, p.1 ≠ it) : Inv X pins σ H { s with heap := h', toks := t' } := by
  have nit : ∀ b u, H b = some u → b ≠ it := fun b u e z => by rw [z, hn] at e; cases e
  refine I.step (g' := s.gens) (d' := s.drawn) (ch := [it]) (fun b hb => ?_) (fun b o _ _ hc e _ => k b o (fun z => hc (by simp [z])) e) (fun b o _ _ hc e _ => ⟨o.slots, k b o (fun z => hc (by simp [z])) e⟩) (fun _ _ _ _ n => n)
    (fun b o hc e => ⟨o, k b o (fun z => hc (by simp [z])) e⟩) (fun _ _ e => e) (fun _ _ _ e => e) (fun b ps e => ⟨#[], by rw [e]; simp⟩) (fun m hm => ?_) (fun b u e => ?_) I.bare
  · have e : b = it := by simpa using hb
    subst e
    exact ⟨h1, hL, h2, h3⟩
  · obtain ⟨o, es, ep, ho, r⟩ := hm
    exact ⟨o, es, ep, k _ o (Ne.symm hL) ho, r⟩
  · refine (I.hok b u e).stay (fun c v hc q => k c v ?_ q) (fun _ q => q) fun _ _ q => q
    rcases hc with z | z
    · rw [z]; exact nit b u e
    · exact nit c _ z
theorem Inv.tok (I : Inv X pins σ H s) (t : Nat) : Inv X pins σ H { s with toks := t } := I.un (h' := s.heap) (t' := t) Un.refl I.hok
/-- all objects kept -/
theorem Inv.kept {t' : Nat} (I : Inv X pins σ H s) (k : ∀ b u, s.heap.get? b = some u → h'.get? b = some u) : Inv X pins σ H { s with heap := h', toks := t' } := I.un (Un.kept k) (I.hok.kept k)
/-- a new object laid and tracked -/
theorem Inv.laid {a : Addr} {o : HO} {t' : Nat} (I : Inv X pins σ H s) (k : ∀ b u, s.heap.get? b = some u → h'.get? b = some u) (hp : s.heap.objs.size ≤ a) (new : ObjOk X.prog X.w (upd H a o) h' a o) :
    Inv X pins σ (upd H a o) { s with heap := h', toks := t' } := I.un (Un.laid k hp (I.hok.fresh hp)) (I.hok.laid k hp new)
/-- an object written -/
theorem Inv.write {x e : Addr} {o : HO} {t' : Nat} (I : Inv X pins σ H s) (mu : Mut (H x)) (he : e = x ∨ H e = some (.own x)) (k : ∀ b u, b ≠ e → s.heap.get? b = some u → h'.get? b = some u) (heo : ∃ u, h'.get? e = some u)
    (new : ObjOk X.prog X.w (upd H x o) h' x o) : Inv X pins σ (upd H x o) { s with heap := h', toks := t' } := I.un (Un.write mu he k heo) (I.hok.write mu he k heo new)
/-- forgetting slots, pins -/
theorem Inv.weak {σ' : List (Option V)} (I : Inv X pins σ H s) (hl : σ'.length = σ.length) (w : ∀ (i : Nat) v, σ'[i]? = some (some v) → σ[i]? = some (some v)) : Inv X pins σ' H s :=
  ⟨I.ok, I.os, I.bare, I.base, let ⟨m, hn, hl'⟩ := I.loc; ⟨m, hn, fun i x v e1 e2 e3 => hl' i x v e1 (w i v e2) e3⟩, I.cell, I.free, I.freeC, I.pin, I.hok, hl.trans I.len⟩
theorem Inv.pins_of {pins' : List (Addr × Obj)} (I : Inv X pins σ H s) (h : ∀ p ∈ pins', s.heap.get? p.1 = some p.2 ∧ H p.1 = none ∧ p.1 ≠ X.env.locals ∧ p.1 ∉ X.fs ∧ ∀ v, p.2.data ≠ .cell v) : Inv X pins' σ H s :=
  ⟨I.ok, I.os, I.bare, I.base, I.loc, I.cell, I.free, I.freeC, fun p hp => (List.mem_append.mp hp).elim (fun z => I.pin p (List.mem_append_left _ z)) (h p), I.hok, I.len⟩

theorem nodup_ix {N : List Str} (hN : N.Nodup) {i j : Nat} {x : Str} (a : N[i]? = some x) (b : N[j]? = some x) : i = j := by
  obtain ⟨h1, e1⟩ := List.getElem?_eq_some_iff.mp a
  obtain ⟨h2, e2⟩ := List.getElem?_eq_some_iff.mp b
  exact (List.getElem_inj hN).mp (e1.trans e2.symm)

/-- a name is stored; what changed -/
theorem store_ok2 {M : Model} {A : Around} {E : Value → Shared → Prop} {i : Nat} {x : Str} {v : V} {u : Value} {Q : Unit → Shared → Prop} (I : Inv X pins σ H s) (hN : X.N.Nodup) (hi : X.N[i]? = some x) (hx : Loc X.env.scope x) (r : RelV v u)
    (h : ∀ s', Inv X pins (σ.set i (some v)) H s' → (∃ a, Heap.SameBut a s.heap s'.heap ∧ (a = X.env.locals ∨ X.env.cells.lookup x = some a)) → Q () s') (hf : X.fn x = true ∨ X.env.scope.names.lookup x = some .local := by first | exact .inl rfl | exact .inr rfl | assumption) : wpAny M A (storeName X.env x u) Q E s := by
  obtain ⟨m, hn, hl⟩ := id I.loc
  have hcls : (X.env.scope.kind == .class || (X.env.scope.kind == .module && X.env.locals != X.env.globals)) = false := by rw [I.ok.kind]; rfl
  have hiσ : i < σ.length := by rw [I.len]; exact (List.getElem?_eq_some_iff.mp hi).1
  have cne := I.cne
  have tracked : ∀ {a : Addr} {h' : Heap}, (∃ o, s.heap.get? a = some o ∧ H a = none) → Heap.SameBut a s.heap h' → HOk X.prog X.w H h' := fun {a h'} ha hs b ob e => by
    obtain ⟨_, _, hfree⟩ := ha
    refine (I.hok b ob e).stay (fun c w' hc q => (hs.2 c ?_).trans q) (fun _ q => q) fun _ _ q => q
    rintro rfl
    rcases hc with rfl | hc
    · rw [hfree] at e; cases e
    · rw [hfree] at hc; cases hc
  rcases hx with hk | hk
  · refine wpAny_storeName_local hk hn (fun h' hn' hs => ?_) hcls
    obtain ⟨oL, _, _, hoL, _⟩ := id hn
    refine h _ ⟨I.ok, I.os, I.bare, ⟨fun b o e n hb hx => ?_, fun b o e n hb hx => ?_, I.base.free, fun b o e hx => ?_, I.base.tups, I.base.frzs, I.base.tbls⟩, ⟨_, hn', fun j y v' e1 e2 e3 => ?_⟩, fun y c e => ?_, I.free, I.freeC, fun p hp => ?_, tracked ⟨oL, hoL, I.free⟩ hs, by simpa using I.len⟩ ⟨_, hs, .inl rfl⟩
    · exact (hs.2 b (Nat.ne_of_lt (Nat.lt_of_lt_of_le (Heap.lt_size e) I.ok.above))).trans (I.base.keep b o e n hb hx)
    · obtain ⟨sl, e1⟩ := I.base.slot b o e n hb hx
      exact ⟨sl, (hs.2 b (Nat.ne_of_lt (Nat.lt_of_lt_of_le (Heap.lt_size e) I.ok.above))).trans e1⟩
    · obtain ⟨o', e1⟩ := I.base.there b o e hx
      exact ⟨o', (hs.2 b (Nat.ne_of_lt (Nat.lt_of_lt_of_le (Heap.lt_size e) I.ok.above))).trans e1⟩
    · by_cases hj : j = i
      · subst hj
        rw [hi] at e1; cases e1
        rw [List.getElem?_set_self hiσ] at e2
        cases e2
        exact ⟨u, r, .inl ⟨hk, by simp⟩⟩
      · rw [List.getElem?_set_ne (Ne.symm hj)] at e2
        obtain ⟨u', r', q⟩ := hl j y v' e1 e2 e3
        refine ⟨u', r', ?_⟩
        rcases q with ⟨k, e⟩ | ⟨k, c, e, z⟩
        · refine .inl ⟨k, ?_⟩
          have : y ≠ x := fun e => hj (nodup_ix hN e1 (e ▸ hi))
          simp [this, e]
        · exact .inr ⟨k, c, e, z.sameBut hs (cne y c e)⟩
    · obtain ⟨w', z⟩ := I.cell y c e
      exact ⟨w', z.sameBut hs (cne y c e)⟩
    · obtain ⟨e, n, ne, nf, d⟩ := I.pin p hp
      exact ⟨(hs.2 p.1 ne).trans e, n, ne, nf, d⟩
  · have hfn : X.fn x = true := by
      rcases hf with z | z
      · exact z
      · rw [z] at hk; cases hk
    obtain ⟨c, hc⟩ := I.ok.has x (.inl hk)
    obtain ⟨w', z⟩ := I.cell x c hc
    refine wpAny_storeName_cell I.ok.kind hk hc z (fun h' hc' hs => ?_)
    obtain ⟨oc, hoc, hocd⟩ := id z
    refine h { s with heap := h' } ⟨I.ok, I.os, I.bare, ⟨fun b o e n hb hx => ?_, fun b o e n hb hx => ?_, I.base.free, fun b o e hx => ?_, I.base.tups, I.base.frzs, I.base.tbls⟩, ⟨m, hn.sameBut hs (Ne.symm (cne x c hc)), fun j y v' e1 e2 e3 => ?_⟩, fun y c' e => ?_, I.free, I.freeC, fun p hp => ?_, tracked ⟨oc, hoc, I.freeC x c hc⟩ hs, by simpa using I.len⟩ ⟨c, hs, .inr hc⟩
    · exact (hs.2 b (Nat.ne_of_lt (Nat.lt_of_lt_of_le (Heap.lt_size e) (I.ok.cab x c hfn hc)))).trans (I.base.keep b o e n hb hx)
    · obtain ⟨sl, e1⟩ := I.base.slot b o e n hb hx
      exact ⟨sl, (hs.2 b (Nat.ne_of_lt (Nat.lt_of_lt_of_le (Heap.lt_size e) (I.ok.cab x c hfn hc)))).trans e1⟩
    · obtain ⟨o', e1⟩ := I.base.there b o e hx
      exact ⟨o', (hs.2 b (Nat.ne_of_lt (Nat.lt_of_lt_of_le (Heap.lt_size e) (I.ok.cab x c hfn hc)))).trans e1⟩
    · by_cases hj : j = i
      · subst hj
        rw [hi] at e1; cases e1
        rw [List.getElem?_set_self hiσ] at e2
        cases e2
        exact ⟨u, r, .inr ⟨.inl hk, c, hc, hc'⟩⟩
      · rw [List.getElem?_set_ne (Ne.symm hj)] at e2
        obtain ⟨u', r', q⟩ := hl j y v' e1 e2 e3
        refine ⟨u', r', ?_⟩
        rcases q with q | ⟨k, c', e, z'⟩
        · exact .inl q
        · refine .inr ⟨k, c', e, z'.sameBut hs ?_⟩
          rintro rfl
          exact hj (nodup_ix hN e1 (I.ok.inj _ _ _ e hc ▸ hi))
    · by_cases hcc : c' = c
      · subst hcc; exact ⟨_, hc'⟩
      · obtain ⟨w2, z2⟩ := I.cell y c' e
        exact ⟨w2, z2.sameBut hs hcc⟩
    · obtain ⟨e, n, ne, nf, d⟩ := I.pin p hp
      refine ⟨(hs.2 p.1 ?_).trans e, n, ne, nf, d⟩
      intro q
      rw [q, hoc] at e
      have q' : oc = p.2 := Option.some.inj e
      exact d w' (by rw [← q']; exact hocd)
theorem store_ok {M : Model} {A : Around} {E : Value → Shared → Prop} {i : Nat} {x : Str} {v : V} {u : Value} {Q : Unit → Shared → Prop} (I : Inv X pins σ H s) (hN : X.N.Nodup) (hi : X.N[i]? = some x) (hx : Loc X.env.scope x) (r : RelV v u)
    (h : ∀ s', Inv X pins (σ.set i (some v)) H s' → Q () s') (hf : X.fn x = true ∨ X.env.scope.names.lookup x = some .local := by first | exact .inl rfl | exact .inr rfl | assumption) : wpAny M A (storeName X.env x u) Q E s :=
  store_ok2 I hN hi hx r (fun s' I' _ => h s' I') hf
/-- behind a call or a block, the state as it is -/
theorem Inv.call' {s' : Shared} {ch : List Addr} (I : Inv X pins σ H s) (ho : s'.os = s.os) (u : Un (frs X.stack) ch H H' s.heap s'.heap) (hok : HOk X.prog X.w H' s'.heap) (hg : AllBare s'.gens)
    (hch : ∀ b ∈ ch, (b ∈ X.ex ∨ X.s₀.heap.objs.size ≤ b) ∧ b ≠ X.env.locals ∧ (∀ x c, X.env.cells.lookup x = some c → c ≠ b) ∧ ∀ p ∈ X.pn ++ pins, p.1 ≠ b) : Inv X pins σ H' s' := by
  obtain ⟨h', g', d', t', o'⟩ := s'
  have e : o' = s.os := ho
  subst e
  exact I.call (g' := g') (t' := t') (d' := d') u hok hg hch
end

/-! ### the judgements -/
/-- an exception: its class, its own dict's address (where it has one), the abstract heap behind it -/
abbrev XK := Value → Option Addr → Hp → Prop
abbrev St := List (Option V)
abbrev VK := V → Hp → Prop
/-- an expression's reading; a test's; an argument list's -/
abbrev TE := St → Hp → VK → Prop
abbrev TT := St → Hp → (Bool → Hp → Prop) → Prop
abbrev TA := St → Hp → (List V → Hp → Prop) → Prop
/-- what is wanted behind a statement -/
structure Ends where
  nx : St → Hp → Prop
  rt : VK
  bk : St → Hp → Prop := fun _ _ => False
  ct : St → Hp → Prop := fun _ _ => False
abbrev TS := Ends → St → Hp → Prop

def EP (X : Cx) (pins : List (Addr × Obj)) (σ : St) (Q : VK) (u : Value) (s' : Shared) : Prop := ∃ v H', Inv X pins σ H' s' ∧ RelV v u ∧ Q v H'
def TP (X : Cx) (pins : List (Addr × Obj)) (σ : St) (Q : Bool → Hp → Prop) (b : Bool) (s' : Shared) : Prop := ∃ H', Inv X pins σ H' s' ∧ Q b H'
def AP (X : Cx) (pins : List (Addr × Obj)) (σ : St) (Q : List V → Hp → Prop) (us : List Value) (s' : Shared) : Prop := ∃ vs H', Inv X pins σ H' s' ∧ Vals vs us ∧ Q vs H'
def SP (X : Cx) (pins : List (Addr × Obj)) (D : Ends) (f : Flow) (s' : Shared) : Prop :=
  match f with
  | .next => ∃ σ' H', Inv X pins σ' H' s' ∧ D.nx σ' H'
  | .brk => ∃ σ' H', Inv X pins σ' H' s' ∧ D.bk σ' H'
  | .cont => ∃ σ' H', Inv X pins σ' H' s' ∧ D.ct σ' H'
  | .ret u => ∃ v σ' H', Inv X pins σ' H' s' ∧ RelV v u ∧ D.rt v H'

def PE (X : Cx) (e : Expr) (t : TE) : Prop :=
  ∀ (pins : List (Addr × Obj)) (s : Shared) (σ : St) (H : Hp) (Q : VK), Inv X pins σ H s → t σ H Q → wpAny (model X.prog X.w) X.A (eval e X.env) (EP X pins σ Q) X.xe s
def PT (X : Cx) (e : Expr) (t : TT) : Prop :=
  ∀ (pins : List (Addr × Obj)) (s : Shared) (σ : St) (H : Hp) (Q : Bool → Hp → Prop), Inv X pins σ H s → t σ H Q → wpAny (model X.prog X.w) X.A (isTrue e X.env (eval e X.env)) (TP X pins σ Q) X.xe s
/-- a test whatever its 'whole' is (and, or) -/
def PW (X : Cx) (e : Expr) (t : TT) : Prop :=
  ∀ (whole : Sem Value) (pins : List (Addr × Obj)) (s : Shared) (σ : St) (H : Hp) (Q : Bool → Hp → Prop), Inv X pins σ H s → t σ H Q → wpAny (model X.prog X.w) X.A (isTrue e X.env whole) (TP X pins σ Q) X.xe s
theorem PW.pt {X : Cx} {e : Expr} {t : TT} (h : PW X e t) : PT X e t := h _
/-- an argument list (no star), from the left -/
def PA (X : Cx) (es : List Expr) (t : TA) : Prop :=
  ∀ (pos : Pos) (pins : List (Addr × Obj)) (s : Shared) (σ : St) (H : Hp) (Q : List V → Hp → Prop), Inv X pins σ H s → t σ H Q → wpAny (model X.prog X.w) X.A (spliced (backTo pos (starEach es X.env))) (AP X pins σ Q) X.xe s
def PS (X : Cx) (st : Stmt) (t : TS) : Prop :=
  ∀ (pins : List (Addr × Obj)) (s : Shared) (σ : St) (H : Hp) (D : Ends), Inv X pins σ H s → t D σ H → wpAny (model X.prog X.w) X.A (exec st X.env) (SP X pins D) X.xe s
def PSs (X : Cx) (st : List Stmt) (t : TS) : Prop :=
  ∀ (pins : List (Addr × Obj)) (s : Shared) (σ : St) (H : Hp) (D : Ends), Inv X pins σ H s → t D σ H → wpAny (model X.prog X.w) X.A (execs st X.env) (SP X pins D) X.xe s
/-- weaken the end -/
theorem thn {α : Type} {t : Sem α} {Q Q' : α → Shared → Prop} {M : Model} {A : Around} {E : Value → Shared → Prop} {s : Shared} (h : wpAny M A t Q E s) (hQ : ∀ a s, Q a s → Q' a s) : wpAny M A t Q' E s := wpAny_mono h hQ fun _ _ x => x
end L2

namespace L2
open PySem PySem.Spec PyProof.Rows
section
variable {X : Cx}

/-- two expressions in a row -/
theorem bin {a b : Expr} {ta tb : TE} (ha : PE X a ta) (hb : PE X b tb) {pins : List (Addr × Obj)} {s : Shared} {σ : St} {H : Hp} {R : V → V → Hp → Prop} (I : Inv X pins σ H s) (h : ta σ H fun x H1 => tb σ H1 fun y H2 => R x y H2)
    {α : Type} {Q : α → Shared → Prop} {f : Value → Value → Sem α}
    (hf : ∀ v u s2 x y H2, Inv X pins σ H2 s2 → RelV x v → RelV y u → R x y H2 → wpAny (model X.prog X.w) X.A (f v u) Q X.xe s2) :
    wpAny (model X.prog X.w) X.A (eval a X.env) (fun v s₁ => wpAny (model X.prog X.w) X.A (eval b X.env) (fun u s₂ => wpAny (model X.prog X.w) X.A (f v u) Q X.xe s₂) X.xe s₁) X.xe s := by
  refine thn (ha pins s σ H _ I h) fun v s1 ⟨x, H1, I1, r1, q1⟩ => ?_
  refine thn (hb pins s1 σ H1 _ I1 q1) fun u s2 ⟨y, H2, I2, r2, q2⟩ => ?_
  exact hf v u s2 x y H2 I2 r1 r2 q2

/-! ### names and constants -/
def tVar (i : Nat) : TE := fun σ H Q => ∃ v, σ[i]? = some (some v) ∧ Q v H
def tC (v : V) : TE := fun _ H Q => Q v H
theorem pe_var {i : Nat} {x : Str} {pos : Pos} (hN : X.N[i]? = some x) (hv : Vis X.env.scope x) (hd : (x == ("__debug__" : Str)) = false := by decide) (hcd : (x == ("__classdict__" : Str)) = false := by decide) : PE X (.Name x pos) (tVar i) := by
  intro pins s σ H Q I h
  obtain ⟨v, e, h⟩ := h
  obtain ⟨m, hn, hl⟩ := I.loc
  obtain ⟨u, r, l⟩ := hl i x v hN e hv
  have fin : EP X pins σ Q u s := ⟨v, H, I, r, h⟩
  rcases l with ⟨hk, hm⟩ | ⟨hk, c, hc, hcell⟩
  · exact wpAny_Name (wpAny_loadName_local I.ok.kind hk hn hm fin) hd
  · rcases hk with hk | hk
    · exact wpAny_Name (wpAny_loadName_cell I.ok.kind hk hc hcell fin) hd
    · exact wpAny_Name (wpAny_loadName_free I.ok.kind hk hc hcell fin hcd) hd
theorem pe_int {i j pos} : PE X (.Constant (.int i) j pos) (tC (.int i)) := fun _ _ _ H _ I h => wpAny_Constant_int ⟨.int i, H, I.tok _, ⟨_, rfl⟩, h⟩
theorem pe_bl {b j pos} : PE X (.Constant (.bool b) j pos) (tC (.bl b)) := fun _ _ _ H _ I h => Constant_bool ⟨.bl b, H, I, rfl, h⟩
theorem pe_non {j pos} : PE X (.Constant .none j pos) (tC .non) := fun _ _ _ H _ I h => Constant_none ⟨.non, H, I, rfl, h⟩
theorem pe_str {x j pos} : PE X (.Constant (.str x) j pos) (tC (.str x)) := fun _ _ _ H _ I h => Calls.Constant_str ⟨.str x, H, I.tok _, ⟨_, rfl⟩, h⟩

/-- a global name of the def -/
def Gl (X : Cx) (x : Str) : Prop := X.env.kindOf x = some .globalImplicit
theorem ld_glob {E : Value → Shared → Prop} {pins : List (Addr × Obj)} {s : Shared} {σ : St} {H : Hp} {x : Str} {u : Value} {pos : Pos} {Q : Value → Shared → Prop} (I : Inv X pins σ H s) (hg : Gl X x) (hm : X.mg x = some u) (h : Q u s)
    (hd : (x == ("__debug__" : Str)) = false := by decide) : wpAny (model X.prog X.w) X.A (eval (.Name x pos) X.env) Q E s :=
  Calls.Name_function_global I.ok.kind hg (Calls.loadGlobal_global (by rw [I.ok.glob]; exact I.mod.glob.keeps I.bk) hm h) hd
theorem ld_blt {E : Value → Shared → Prop} {pins : List (Addr × Obj)} {s : Shared} {σ : St} {H : Hp} {x : Str} {u : Value} {pos : Pos} {Q : Value → Shared → Prop} (I : Inv X pins σ H s) (hg : Gl X x) (hm : X.mg x = none) (hv : bootBuiltins x = some u) (h : Q u s)
    (hn : x ≠ "__name__" := by decide) (hd : (x == ("__debug__" : Str)) = false := by decide) : wpAny (model X.prog X.w) X.A (eval (.Name x pos) X.env) Q E s := by
  obtain ⟨mb, h1, h2⟩ := I.mod.blt
  exact Calls.Name_function_global I.ok.kind hg (Calls.loadGlobal_builtin (by rw [I.ok.glob]; exact I.mod.glob.keeps I.bk) hm (by rw [I.ok.blt]; exact h1.keeps I.bk) ((h2 x hn).trans hv) h) hd
/-- a module's constant, a class, a function, as a value -/
theorem pe_glob {x : Str} {v : V} {u : Value} {pos : Pos} (hg : Gl X x) (hm : X.mg x = some u) (r : RelV v u) (hd : (x == ("__debug__" : Str)) = false := by decide) : PE X (.Name x pos) (tC v) :=
  fun _ _ _ H _ I h => ld_glob I hg hm ⟨v, H, I, r, h⟩ hd
theorem pe_bltn {x : Str} {v : V} {u : Value} {pos : Pos} (hg : Gl X x) (hm : X.mg x = none) (hv : bootBuiltins x = some u) (r : RelV v u) (hn : x ≠ "__name__" := by decide) (hd : (x == ("__debug__" : Str)) = false := by decide) : PE X (.Name x pos) (tC v) :=
  fun _ _ _ H _ I h => ld_blt I hg hm hv ⟨v, H, I, r, h⟩ hn hd

/-! ### arithmetic -/
/-- two ints -/
def t2I (ta tb : TE) (k : Int → Int → Hp → Prop) : St → Hp → Prop := fun σ H => ta σ H fun x H1 => tb σ H1 fun y H2 => ∃ i j, x = .int i ∧ y = .int j ∧ k i j H2
def tAdd (ta tb : TE) : TE := fun σ H Q => t2I ta tb (fun i j H2 => Q (.int (i + j)) H2) σ H
def tSub (ta tb : TE) : TE := fun σ H Q => t2I ta tb (fun i j H2 => Q (.int (i - j)) H2) σ H
/-- the left factor below 2^64 -/
def tMul (ta tb : TE) : TE := fun σ H Q => t2I ta tb (fun i j H2 => (-(2 ^ 64) < i ∧ i < 2 ^ 64) ∧ Q (.int (i * j)) H2) σ H
variable {a b : Expr} {ta tb : TE} {pos : Pos}
theorem pe_add (ha : PE X a ta) (hb : PE X b tb) : PE X (.BinOp a .Add b pos) (tAdd ta tb) := by
  intro pins s σ H Q I h
  refine wpAny_BinOp (bin ha hb I h fun v u s2 x y H2 I2 rx ry q => ?_)
  obtain ⟨i, j, rfl, rfl, q⟩ := q
  obtain ⟨t, rfl⟩ := rx
  obtain ⟨t', rfl⟩ := ry
  exact add_int ⟨.int _, H2, I2.tok _, ⟨_, rfl⟩, q⟩
theorem pe_sub (ha : PE X a ta) (hb : PE X b tb) : PE X (.BinOp a .Sub b pos) (tSub ta tb) := by
  intro pins s σ H Q I h
  refine wpAny_BinOp (bin ha hb I h fun v u s2 x y H2 I2 rx ry q => ?_)
  obtain ⟨i, j, rfl, rfl, q⟩ := q
  obtain ⟨t, rfl⟩ := rx
  obtain ⟨t', rfl⟩ := ry
  exact sub_int ⟨.int _, H2, I2.tok _, ⟨_, rfl⟩, q⟩
theorem pe_mul (ha : PE X a ta) (hb : PE X b tb) : PE X (.BinOp a .Mult b pos) (tMul ta tb) := by
  intro pins s σ H Q I h
  refine wpAny_BinOp (bin ha hb I h fun v u s2 x y H2 I2 rx ry q => ?_)
  obtain ⟨i, j, rfl, rfl, ⟨q1, q2⟩, q⟩ := q
  obtain ⟨t, rfl⟩ := rx
  obtain ⟨t', rfl⟩ := ry
  exact mul_int ⟨.int _, H2, I2.tok _, ⟨_, rfl⟩, q⟩ (.of_left (intBits_le_64 q1 q2))

/-! ### comparisons -/
def PC (X : Cx) (op : CmpOp) (a b : Expr) (t : TE) : Prop :=
  ∀ (pins : List (Addr × Obj)) (s : Shared) (σ : St) (H : Hp) (Q : VK), Inv X pins σ H s → t σ H Q →
    wpAny (model X.prog X.w) X.A (eval a X.env) (fun v s₁ => wpAny (model X.prog X.w) X.A (eval b X.env) (fun u s₂ => wpAny (model X.prog X.w) X.A (compareOp op v u) (EP X pins σ Q) X.xe s₂) X.xe s₁) X.xe s
theorem nobehind (b : Expr) {op : CmpOp} (h : op ≠ .In) (h2 : op ≠ .NotIn) : behindInMarks op b = false := by
  have e1 : (op == CmpOp.In) = false := by cases op <;> first | rfl | exact absurd rfl h
  have e2 : (op == CmpOp.NotIn) = false := by cases op <;> first | rfl | exact absurd rfl h2
  cases b <;> simp [behindInMarks, e1, e2]
def tCmp (p : Int → Int → Bool) (ta tb : TE) : TE := fun σ H Q => t2I ta tb (fun i j H2 => Q (.bl (p i j)) H2) σ H
abbrev tLt : TE → TE → TE := tCmp fun i j => decide (i < j)
abbrev tLe : TE → TE → TE := tCmp fun i j => decide (i ≤ j)
abbrev tGt : TE → TE → TE := tCmp fun i j => decide (j < i)
abbrev tGe : TE → TE → TE := tCmp fun i j => decide (j ≤ i)
abbrev tEqI : TE → TE → TE := tCmp fun i j => decide (i = j)
abbrev tNeI : TE → TE → TE := tCmp fun i j => !decide (i = j)
/-- a comparison of two ints, by its rule -/
theorem pc_int {op : CmpOp} {p : Int → Int → Bool} (ha : PE X a ta) (hb : PE X b tb)
    (rule : ∀ (i j : Int) (t u : Tok) (Q : Value → Shared → Prop) (s : Shared), Q (.bool (p i j)) s → wpAny (model X.prog X.w) X.A (compareOp op (.int i t) (.int j u)) Q X.xe s) : PC X op a b (tCmp p ta tb) := by
  intro pins s σ H Q I h
  refine bin ha hb I h fun v u s2 x y H2 I2 rx ry q => ?_
  obtain ⟨i, j, rfl, rfl, q⟩ := q
  obtain ⟨t, rfl⟩ := rx
  obtain ⟨t', rfl⟩ := ry
  exact rule i j t t' _ s2 ⟨.bl _, H2, I2, rfl, q⟩
theorem pc_lt (ha : PE X a ta) (hb : PE X b tb) : PC X .Lt a b (tLt ta tb) := pc_int ha hb fun _ _ _ _ _ _ h => lt_int h
theorem pc_le (ha : PE X a ta) (hb : PE X b tb) : PC X .LtE a b (tLe ta tb) := pc_int ha hb fun _ _ _ _ _ _ h => le_int h
theorem pc_gt (ha : PE X a ta) (hb : PE X b tb) : PC X .Gt a b (tGt ta tb) := pc_int ha hb fun _ _ _ _ _ _ h => gt_int h
theorem pc_ge (ha : PE X a ta) (hb : PE X b tb) : PC X .GtE a b (tGe ta tb) := pc_int ha hb fun _ _ _ _ _ _ h => ge_int h
theorem pc_eqI (ha : PE X a ta) (hb : PE X b tb) : PC X .Eq a b (tEqI ta tb) := pc_int ha hb fun _ _ _ _ _ _ h => eq_int (by rw [Bool.beq_eq_decide_eq]; exact h)
theorem pc_neI (ha : PE X a ta) (hb : PE X b tb) : PC X .NotEq a b (tNeI ta tb) := pc_int ha hb fun _ _ _ _ _ _ h => ne_int (by rw [bne, Bool.beq_eq_decide_eq]; exact h)
/-- is None -/
def tIsN (ta : TE) : TE := fun σ H Q => ta σ H fun x H1 => Q (.bl (decide (x = .non))) H1
def tNotN (ta : TE) : TE := fun σ H Q => ta σ H fun x H1 => Q (.bl (!decide (x = .non))) H1
theorem RelV.none_iff {x : V} {v : Value} (r : RelV x v) : (v == Value.none) = decide (x = .non) := by
  cases x with
  | non => cases r; rfl
  | bl _ => cases r; rfl
  | int _ => obtain ⟨t, rfl⟩ := r; rfl
  | str _ => obtain ⟨t, rfl⟩ := r; rfl
  | byt _ => obtain ⟨t, rfl⟩ := r; rfl
  | flt _ => obtain ⟨t, rfl⟩ := r; rfl
  | ref _ => cases r; rfl
  | ty _ => cases r; rfl
theorem pc_isN {j pos'} (ha : PE X a ta) : PC X .Is a (.Constant .none j pos') (tIsN ta) := by
  intro pins s σ H Q I h
  refine thn (ha pins s σ H _ I h) fun v s1 ⟨x, H1, I1, r1, q1⟩ => ?_
  exact Constant_none (is_none_gen ⟨.bl _, H1, I1, by rw [r1.none_iff]; rfl, q1⟩)
theorem pc_notN {j pos'} (ha : PE X a ta) : PC X .IsNot a (.Constant .none j pos') (tNotN ta) := by
  intro pins s σ H Q I h
  refine thn (ha pins s σ H _ I h) fun v s1 ⟨x, H1, I1, r1, q1⟩ => ?_
  exact Constant_none (isnot_none_gen ⟨.bl _, H1, I1, by rw [r1.none_iff]; rfl, q1⟩)
/-- a comparison as a value, as a test -/
def tB (t : TE) : TT := fun σ H Q => t σ H fun x H1 => ∃ c, x = .bl c ∧ Q c H1
theorem pe_cmp {op : CmpOp} {t : TE} (h : PC X op a b t) (h1 : behindInMarks op b = false := by first | exact nobehind _ (by decide) (by decide) | rfl) : PE X (.Compare a [op] [b] pos) t := fun pins s σ H Q I hw => wpAny_Compare1 (h pins s σ H Q I hw) h1
theorem pt_cmp {op : CmpOp} {t : TE} (h : PC X op a b t) (h1 : behindInMarks op b = false := by first | exact nobehind _ (by decide) (by decide) | rfl) : PT X (.Compare a [op] [b] pos) (tB t) := by
  intro pins s σ H Q I hw
  refine wpAny_isTrue_Compare1 (thn (h pins s σ H _ I hw) fun v s1 h1 => thn h1 fun u s2 h2 => thn h2 fun c s3 ⟨x, H1, I1, r1, q1⟩ => ?_) h1
  obtain ⟨d, rfl, q⟩ := q1
  cases r1
  exact wpAny_truthy_bool ⟨H1, I1, q⟩
/-- an expression whose value is a bool, as a test -/
theorem pt_val {e : Expr} {t : TE} (h : PE X e t) (he : ∀ whole, isTrue e X.env whole = (do let v ← whole; standAt e.pos; holding [v] (truthy v)) := by intro _; rfl) : PT X e (tB t) := by
  intro pins s σ H Q I hw
  refine isTrue_plain (thn (h pins s σ H _ I hw) fun v s1 ⟨x, H1, I1, r1, q1⟩ => ?_) (he _)
  obtain ⟨d, rfl, q⟩ := q1
  cases r1
  exact wpAny_truthy_bool ⟨H1, I1, q⟩

/-! ### and, or, not -/
variable {tA tB' : TT} {rest : List Expr}
def tAnd (t u : TT) : TT := fun σ H Q => t σ H fun c H1 => if c = true then u σ H1 Q else Q false H1
def tOr (t u : TT) : TT := fun σ H Q => t σ H fun c H1 => if c = true then Q true H1 else u σ H1 Q
def tNot (t : TT) : TT := fun σ H Q => t σ H fun c H1 => Q (!c) H1
theorem pw_and1 (ha : PT X a tA) : PW X (.BoolOp .And [a] pos) tA := by
  intro wh pins s σ H Q I h
  refine isTrue_and (thn (ha pins s σ H Q I h) fun c s1 e => ?_)
  cases c with
  | true => exact isTrue_and_nil e
  | false => exact e
theorem pw_or1 (ha : PT X a tA) : PW X (.BoolOp .Or [a] pos) tA := by
  intro wh pins s σ H Q I h
  refine isTrue_or (thn (ha pins s σ H Q I h) fun c s1 e => ?_)
  cases c with
  | false => exact isTrue_or_nil e
  | true => exact e
theorem pw_and (ha : PT X a tA) (hb : PW X (.BoolOp .And (b :: rest) pos) tB') : PW X (.BoolOp .And (a :: b :: rest) pos) (tAnd tA tB') := by
  intro wh pins s σ H Q I h
  refine isTrue_and (thn (ha pins s σ H _ I h) fun c s1 ⟨H1, I1, q1⟩ => ?_)
  cases c with
  | true => exact hb wh pins s1 σ H1 Q I1 q1
  | false => exact ⟨H1, I1, q1⟩
theorem pw_or (ha : PT X a tA) (hb : PW X (.BoolOp .Or (b :: rest) pos) tB') : PW X (.BoolOp .Or (a :: b :: rest) pos) (tOr tA tB') := by
  intro wh pins s σ H Q I h
  refine isTrue_or (thn (ha pins s σ H _ I h) fun c s1 ⟨H1, I1, q1⟩ => ?_)
  cases c with
  | true => exact ⟨H1, I1, q1⟩
  | false => exact hb wh pins s1 σ H1 Q I1 q1
theorem pt_not (ha : PT X a tA) : PT X (.UnaryOp .Not a pos) (tNot tA) := by
  intro pins s σ H Q I h
  exact isTrue_not (ha pins s σ H (fun c H1 => Q (!c) H1) I h)
/-- .. as values (bools) -/
def tAndV (ta tb : TE) : TE := fun σ H Q => ta σ H fun x H1 => ∃ c, x = .bl c ∧ if c = true then tb σ H1 Q else Q (.bl false) H1
def tOrV (ta tb : TE) : TE := fun σ H Q => ta σ H fun x H1 => ∃ c, x = .bl c ∧ if c = true then Q (.bl true) H1 else tb σ H1 Q
def tNotV (ta : TE) : TE := fun σ H Q => ta σ H fun x H1 => ∃ c, x = .bl c ∧ Q (.bl (!c)) H1
theorem pe_one {op} {t : TE} (h : PE X a t) : PE X (.BoolOp op [a] pos) t := fun pins s σ H Q I hw => BoolOp_one (h pins s σ H Q I hw)
theorem pe_and (ha : PE X a ta) (hb : PE X (.BoolOp .And (b :: rest) pos) tb) : PE X (.BoolOp .And (a :: b :: rest) pos) (tAndV ta tb) := by
  intro pins s σ H Q I h
  refine BoolOp_and (thn (ha pins s σ H _ I h) fun v s1 ⟨x, H1, I1, r1, q1⟩ => ?_)
  obtain ⟨c, rfl, q1⟩ := q1
  cases r1
  refine wpAny_truthy_bool ?_
  cases c with
  | true => exact hb pins s1 σ H1 Q I1 q1
  | false => exact ⟨.bl false, H1, I1, rfl, q1⟩
theorem pe_or (ha : PE X a ta) (hb : PE X (.BoolOp .Or (b :: rest) pos) tb) : PE X (.BoolOp .Or (a :: b :: rest) pos) (tOrV ta tb) := by
  intro pins s σ H Q I h
  refine BoolOp_or (thn (ha pins s σ H _ I h) fun v s1 ⟨x, H1, I1, r1, q1⟩ => ?_)
  obtain ⟨c, rfl, q1⟩ := q1
  cases r1
  refine wpAny_truthy_bool ?_
  cases c with
  | false => exact hb pins s1 σ H1 Q I1 q1
  | true => exact ⟨.bl true, H1, I1, rfl, q1⟩
theorem pe_not (ha : PE X a ta) : PE X (.UnaryOp .Not a pos) (tNotV ta) := by
  intro pins s σ H Q I h
  refine UnaryOp_ (thn (ha pins s σ H _ I h) fun v s1 ⟨x, H1, I1, r1, q1⟩ => ?_)
  obtain ⟨c, rfl, q1⟩ := q1
  cases r1
  exact not_of (wpAny_truthy_bool ⟨.bl (!c), H1, I1, rfl, q1⟩)
/-- a if t else b -/
def tIf (t : TT) (ta tb : TE) : TE := fun σ H Q => t σ H fun c H1 => if c = true then ta σ H1 Q else tb σ H1 Q
theorem pe_ifExp {c : Expr} (hc : PT X c tA) (ha : PE X a ta) (hb : PE X b tb) : PE X (.IfExp c a b pos) (tIf tA ta tb) := by
  intro pins s σ H Q I h
  refine wpAny_IfExp (thn (hc pins s σ H _ I h) fun d s1 ⟨H1, I1, q1⟩ => ?_)
  cases d with
  | true => exact ha pins s1 σ H1 Q I1 q1
  | false => exact hb pins s1 σ H1 Q I1 q1
end
end L2

namespace L2
open PySem PySem.Spec PyProof.Rows

/-! ### a list, a tuple that is read: tracked, frozen, or an object of the module -/
def SqL (K : PySem.W.Frag) (H : Hp) (a : Addr) (xs : List V) : Prop :=
  Rd H a (.lst xs) ∨
    ∃ (o : Obj) (its : Array Value) (n : Nat), K.lookup a = some o ∧ o.cls = .type "list" ∧ o.dict = none ∧ o.data = .seq its n ∧ its.size ≤ sizeLine ∧ Vals xs its.toList
def SqT (K : PySem.W.Frag) (H : Hp) (a : Addr) (xs : List V) : Prop :=
  Rd H a (.tup xs) ∨
    ∃ (o : Obj) (its : Array Value) (n : Nat), K.lookup a = some o ∧ o.cls = .type "tuple" ∧ o.data = .seq its n ∧ its.size ≤ sizeLine ∧ Vals xs its.toList
def absV : Value → Option V
  | .none => some .non
  | .bool b => some (.bl b)
  | .int i _ => some (.int i)
  | .str x _ => some (.str x)
  | .bytes b _ => some (.byt b)
  | .float b _ => some (.flt b)
  | .ref a => some (.ref a)
  | .type n => some (.ty n)
  | _ => none
theorem RelV.abs {x : V} {u : Value} (r : RelV x u) : absV u = some x := by
  cases x with
  | non => cases r; rfl
  | bl _ => cases r; rfl
  | int _ => obtain ⟨t, rfl⟩ := r; rfl
  | str _ => obtain ⟨t, rfl⟩ := r; rfl
  | byt _ => obtain ⟨t, rfl⟩ := r; rfl
  | flt _ => obtain ⟨t, rfl⟩ := r; rfl
  | ref _ => cases r; rfl
  | ty _ => cases r; rfl
theorem RelV.inj {x y : V} {u : Value} (r : RelV x u) (q : RelV y u) : x = y := Option.some.inj (r.abs.symm.trans q.abs)
theorem Vals.inj : ∀ {xs ys : List V} {us : List Value}, Vals xs us → Vals ys us → xs = ys
  | _, _, _, .nil, .nil => rfl
  | _, _, _, .cons r t, .cons r' t' => by rw [r.inj r', Vals.inj t t']
section
variable {X : Cx} {pins : List (Addr × Obj)} {σ : St} {H : Hp} {s : Shared} {a : Addr} {xs ys : List V}
theorem SqL.of {K : PySem.W.Frag} (h : H a = some (.lst xs)) : SqL K H a xs := .inl (.inl h)
theorem SqT.of {K : PySem.W.Frag} (h : H a = some (.tup xs)) : SqT K H a xs := .inl (.inl h)
theorem Inv.list (I : Inv X pins σ H s) (h : SqL X.K H a xs) : ∃ its : List Value, Vals xs its ∧ PlainL s.heap a its.toArray ∧ xs.length ≤ sizeLine := by
  rcases h with h | ⟨o, its, n, hk, hc, hd, hs, hz, r⟩
  · obtain ⟨z, its, n, r, e⟩ := h.ok I.hok
    exact ⟨its, r, ⟨_, n, e, rfl, rfl, rfl⟩, z⟩
  · refine ⟨its.toList, r, ⟨o, n, I.kIn a o hk, hc, hd, by simpa using hs⟩, ?_⟩
    have e := r.length
    simp only [Array.length_toList] at e
    omega
theorem Inv.tuple (I : Inv X pins σ H s) (h : SqT X.K H a xs) : ∃ its : List Value, Vals xs its ∧ IsTup s.heap a its.toArray ∧ xs.length ≤ sizeLine := by
  rcases h with h | ⟨o, its, n, hk, hc, hs, hz, r⟩
  · obtain ⟨z, its, r, p⟩ := h.ok I.hok
    exact ⟨its, r, p, z⟩
  · refine ⟨its.toList, r, ⟨o, I.kIn a o hk, hc, n, by simpa using hs⟩, ?_⟩
    have e := r.length
    simp only [Array.length_toList] at e
    omega
theorem Inv.list_inj (I : Inv X pins σ H s) (h : SqL X.K H a xs) (h' : SqL X.K H a ys) : xs = ys := by
  obtain ⟨its, r, ⟨o, n, e, _, _, d⟩, _⟩ := I.list h
  obtain ⟨its', r', ⟨o', n', e', _, _, d'⟩, _⟩ := I.list h'
  rw [e] at e'; cases e'
  rw [d] at d'
  injection d' with d1 _
  have : its = its' := by simpa using congrArg Array.toList d1
  subst this
  exact r.inj r'
theorem Inv.tuple_inj (I : Inv X pins σ H s) (h : SqT X.K H a xs) (h' : SqT X.K H a ys) : xs = ys := by
  obtain ⟨its, r, ⟨o, e, _, n, d⟩, _⟩ := I.tuple h
  obtain ⟨its', r', ⟨o', e', _, n', d'⟩, _⟩ := I.tuple h'
  rw [e] at e'; cases e'
  rw [d] at d'
  injection d' with d1 _
  have : its = its' := by simpa using congrArg Array.toList d1
  subst this
  exact r.inj r'
end

/-! ### another wish about exceptions -/
abbrev Cx.wish (X : Cx) (E : Value → Shared → Prop) : Cx := { X with xe := E }
/-- no exception leaves -/
abbrev Cx.nox (X : Cx) : Cx := X.wish fun _ _ => False
theorem Cx.Ok.wish {X : Cx} (ok : X.Ok) (E : Value → Shared → Prop) : (X.wish E).Ok :=
  ⟨ok.mod, ok.kind, ok.glob, ok.blt, ok.above, ok.inj, ok.has, ok.cab, ok.hd, ok.frames, ok.stk, ok.exf, ok.bs, ok.bsz, ok.noex, ok.exfs, ok.funs, ok.frf⟩
theorem Cx.Ok.unwish {X : Cx} {E : Value → Shared → Prop} (ok : (X.wish E).Ok) : X.Ok :=
  ⟨ok.mod, ok.kind, ok.glob, ok.blt, ok.above, ok.inj, ok.has, ok.cab, ok.hd, ok.frames, ok.stk, ok.exf, ok.bs, ok.bsz, ok.noex, ok.exfs, ok.funs, ok.frf⟩
section
variable {X : Cx} {pins : List (Addr × Obj)} {σ : St} {H : Hp} {s : Shared} {E : Value → Shared → Prop}
theorem Inv.wish (I : Inv X pins σ H s) (E : Value → Shared → Prop) : Inv (X.wish E) pins σ H s := ⟨I.ok.wish E, I.os, I.bare, I.base, I.loc, I.cell, I.free, I.freeC, I.pin, I.hok, I.len⟩
theorem Inv.unwish (I : Inv (X.wish E) pins σ H s) : Inv X pins σ H s := ⟨I.ok.unwish, I.os, I.bare, I.base, I.loc, I.cell, I.free, I.freeC, I.pin, I.hok, I.len⟩
theorem SP.unwish {D : Ends} {f : Flow} {s' : Shared} (h : SP (X.wish E) pins D f s') : SP X pins D f s' := by
  cases f with
  | next => obtain ⟨σ', H', I, q⟩ := h; exact ⟨σ', H', I.unwish, q⟩
  | brk => obtain ⟨σ', H', I, q⟩ := h; exact ⟨σ', H', I.unwish, q⟩
  | cont => obtain ⟨σ', H', I, q⟩ := h; exact ⟨σ', H', I.unwish, q⟩
  | ret u => obtain ⟨v, σ', H', I, r, q⟩ := h; exact ⟨v, σ', H', I.unwish, r, q⟩
theorem PE.nox {e : Expr} {t : TE} (h : PE X.nox e t) : PE X e t := fun pins s σ H Q I hw =>
  wpAny_mono (h pins s σ H Q (I.wish _) hw) (fun _ _ ⟨v, H', I', r, q⟩ => ⟨v, H', I'.unwish, r, q⟩) fun _ _ z => False.elim z
theorem PT.nox {e : Expr} {t : TT} (h : PT X.nox e t) : PT X e t := fun pins s σ H Q I hw =>
  wpAny_mono (h pins s σ H Q (I.wish _) hw) (fun _ _ ⟨H', I', q⟩ => ⟨H', I'.unwish, q⟩) fun _ _ z => False.elim z
theorem PSs.nox {st : List Stmt} {t : TS} (h : PSs X.nox st t) : PSs X st t := fun pins s σ H D I hw =>
  wpAny_mono (h pins s σ H D (I.wish _) hw) (fun _ _ q => q.unwish) fun _ _ z => False.elim z
end

/-! ### blocks and small statements -/
section
variable {X : Cx} {st : Stmt} {rest : List Stmt} {t u : TS} {e : Expr} {te : TE} {pos : Pos}
def tNext : TS := fun D σ H => D.nx σ H
def tSeq (t u : TS) : TS := fun D σ H => t { D with nx := u D } σ H
theorem pss_nil : PSs X [] tNext := fun _ _ σ H _ I h => wpAny_execs_nil ⟨σ, H, I, h⟩
theorem pss_cons (h1 : PS X st t) (h2 : PSs X rest u) : PSs X (st :: rest) (tSeq t u) := by
  intro pins s σ H D I h
  refine wpAny_execs_cons (thn (h1 pins s σ H { D with nx := u D } I h) fun f s1 q => ?_)
  cases f with
  | next =>
    obtain ⟨σ', H', I', q⟩ := q
    exact h2 pins s1 σ' H' D I' q
  | ret v => exact q
  | brk => exact q
  | cont => exact q
theorem pss_one (h1 : PS X st t) : PSs X [st] t := by
  intro pins s σ H D I h
  refine wpAny_execs_cons (thn (h1 pins s σ H D I h) fun f s1 q => ?_)
  cases f with
  | next => exact wpAny_execs_nil q
  | ret v => exact q
  | brk => exact q
  | cont => exact q
def tBreak : TS := fun D σ H => D.bk σ H
def tCont : TS := fun D σ H => D.ct σ H
theorem ps_pass : PS X (.Pass pos) tNext := fun _ _ σ H _ I h => wpAny_Pass ⟨σ, H, I, h⟩
theorem ps_break : PS X (.Break pos) tBreak := fun _ _ σ H _ I h => wpAny_Break ⟨σ, H, I, h⟩
theorem ps_continue : PS X (.Continue pos) tCont := fun _ _ σ H _ I h => wpAny_Continue ⟨σ, H, I, h⟩
/-- in a def's body nothing is shown -/
theorem Inv.quiet {pins : List (Addr × Obj)} {σ : St} {H : Hp} {s : Shared} (I : Inv X pins σ H s) : interactive X.env = false := by simp [interactive, I.ok.kind]
/-- a docstring -/
theorem ps_doc {x j pos pos'} : PS X (.Expr (.Constant (.str x) j pos) pos') tNext := fun _ s σ H _ I h => wpAny_Expr (Calls.Constant_str (show SP X _ _ .next { s with toks := s.toks + 1 } from ⟨σ, H, I.tok _, h⟩)) I.quiet
/-- an expression whose value is dropped -/
def tDrop (te : TE) : TS := fun D σ H => te σ H fun _ H1 => D.nx σ H1
theorem ps_expr (he : PE X e te) (hs : swapsWith e none pos.line X.env = pure false := by rfl) : PS X (.Expr e pos) (tDrop te) := by
  intro pins s σ H D I h
  exact wpAny_Expr_any (thn (he pins s σ H _ I h) fun v s1 ⟨x, H1, I1, r1, q1⟩ => ⟨σ, H1, I1, q1⟩) I.quiet hs
def tRet (te : TE) : TS := fun D σ H => te σ H D.rt
theorem ps_ret (he : PE X e te) : PS X (.Return (some e) pos) (tRet te) := by
  intro pins s σ H D I h
  exact wpAny_Return_some (thn (he pins s σ H _ I h) fun v s1 ⟨x, H1, I1, r1, q1⟩ => ⟨x, σ, H1, I1, r1, q1⟩)
def tRetN : TS := fun D _ H => D.rt .non H
theorem ps_retN : PS X (.Return none pos) tRetN := fun _ _ σ H _ I h => wpAny_Return_none ⟨.non, σ, H, I, rfl, h⟩
def tIfS (c : TT) (t u : TS) : TS := fun D σ H => c σ H fun b H1 => if b = true then t D σ H1 else u D σ H1
theorem ps_if {c : Expr} {a b : List Stmt} {tc : TT} (hc : PT X c tc) (ha : PSs X a t) (hb : PSs X b u) : PS X (.If c a b pos) (tIfS tc t u) := by
  intro pins s σ H D I h
  refine wpAny_If (thn (hc pins s σ H _ I h) fun d s1 ⟨H1, I1, q1⟩ => ?_)
  cases d with
  | true => exact ha pins s1 σ H1 D I1 q1
  | false => exact hb pins s1 σ H1 D I1 q1
/-- code that the proof never comes to -/
def tNever : TS := fun _ _ _ => False
theorem ps_never : PS X st tNever := fun _ _ _ _ _ _ h => h.elim
theorem pss_never {sts : List Stmt} : PSs X sts tNever := fun _ _ _ _ _ _ h => h.elim
end

/-! ### targets -/
abbrev TG := V → St → Hp → (St → Hp → Prop) → Prop
abbrev TGs := List V → St → Hp → (St → Hp → Prop) → Prop
def PG (X : Cx) (target : Expr) (t : TG) : Prop :=
  ∀ (pins : List (Addr × Obj)) (s : Shared) (σ : St) (H : Hp) (v : V) (u : Value) (Q : St → Hp → Prop), Inv X pins σ H s → RelV v u → t v σ H Q →
    wpAny (model X.prog X.w) X.A (assign target X.env u) (fun _ s' => ∃ σ' H', Inv X pins σ' H' s' ∧ Q σ' H') X.xe s
/-- several targets, one after another -/
def PGs (X : Cx) (ts : List Expr) (t : TGs) : Prop :=
  ∀ (pins : List (Addr × Obj)) (s : Shared) (σ : St) (H : Hp) (vs : List V) (us : List Value) (Q : St → Hp → Prop), Inv X pins σ H s → Vals vs us → t vs σ H Q →
    wpAny (model X.prog X.w) X.A (assignInOrder ((assignEach ts X.env).map (·.2)) us) (fun _ s' => ∃ σ' H', Inv X pins σ' H' s' ∧ Q σ' H') X.xe s
/-- o[i] = v, by values -/
abbrev TSet := V → V → V → Hp → (Hp → Prop) → Prop
def PSet (X : Cx) (t : TSet) : Prop :=
  ∀ (pins : List (Addr × Obj)) (s : Shared) (σ : St) (H : Hp) (o i v : V) (ov iv u : Value) (Q : Hp → Prop), Inv X pins σ H s → RelV o ov → RelV i iv → RelV v u → t o i v H Q →
    wpAny (model X.prog X.w) X.A (setItem ov iv u) (fun _ s' => ∃ H', Inv X pins σ H' s' ∧ Q H') X.xe s
/-- a op= b, by values -/
abbrev TIp := V → V → Hp → VK → Prop
def PIp (X : Cx) (op : Operator) (t : TIp) : Prop :=
  ∀ (pins : List (Addr × Obj)) (s : Shared) (σ : St) (H : Hp) (x y : V) (v u : Value) (Q : VK), Inv X pins σ H s → RelV x v → RelV y u → t x y H Q →
    wpAny (model X.prog X.w) X.A (inplaceOp op v u) (EP X pins σ Q) X.xe s
section
variable {X : Cx} {pos : Pos}
def gName (i : Nat) : TG := fun v σ H Q => Q (σ.set i (some v)) H
theorem pg_name {i : Nat} {x : Str} (hN : X.N.Nodup) (hi : X.N[i]? = some x) (hx : Loc X.env.scope x) (hf : X.fn x = true ∨ X.env.scope.names.lookup x = some .local := by first | exact .inl rfl | exact .inr rfl | assumption) : PG X (.Name x pos) (gName i) := by
  intro pins s σ H v u Q I r h
  exact wpAny_assign_Name (store_ok I hN hi hx r (fun s' I' => ⟨_, H, I', h⟩) hf)
def gNil : TGs := fun vs σ H Q => vs = [] ∧ Q σ H
def gCons (t : TG) (u : TGs) : TGs := fun vs σ H Q => ∃ v r, vs = v :: r ∧ t v σ H fun σ' H' => u r σ' H' Q
theorem pgs_nil : PGs X [] gNil := by
  intro pins s σ H vs us Q I r h
  obtain ⟨e, h⟩ := h
  subst e
  cases r
  exact assignInOrder_nil ⟨σ, H, I, h⟩
theorem pgs_cons {e : Expr} {es : List Expr} {t : TG} {u : TGs} (h1 : PG X e t) (h2 : PGs X es u)
    (hs : (assignEach (e :: es) X.env).map (·.2) = assign e X.env :: (assignEach es X.env).map (·.2) := by rfl) : PGs X (e :: es) (gCons t u) := by
  intro pins s σ H vs us Q I r h
  obtain ⟨v, vr, e1, h⟩ := h
  subst e1
  cases r with
  | cons r rr =>
    rw [hs]
    refine assignInOrder_cons (thn (h1 pins s σ H _ _ _ I r h) fun _ s1 ⟨σ1, H1, I1, q1⟩ => ?_)
    exact h2 pins s1 σ1 H1 _ _ Q I1 rr q1
/-- (a, b, ..) = a tuple of that length -/
def gTup (K : PySem.W.Frag) (n : Nat) (t : TGs) : TG := fun v σ H Q => ∃ a xs, v = .ref a ∧ SqT K H a xs ∧ xs.length = n ∧ t xs σ H Q
theorem pg_tup {es : List Expr} {k : Nat} {t : TGs} {n : Nat} (hc : X.calm = true) (h : PGs X es t)
    (hn : (assignEach es X.env).length = n := by rfl) (hst : (assignEach es X.env).findIdx? (·.1) = none := by rfl) : PG X (.Tuple es k pos) (gTup X.K n t) := by
  intro pins s σ H v u Q I r hw
  obtain ⟨a, xs, e1, hq, hl, hw⟩ := hw
  subst e1
  cases r
  obtain ⟨its, rv, ht, hz⟩ := I.tuple hq
  refine assign_Tuple_tuple (I.ok.hd hc) ht (by simp [hn, ← hl, rv.length]) hst fun h' hx => ?_
  have I1 : Inv X pins σ H { s with heap := h' } := I.kept (t' := s.toks) fun b o e => hx b o (Nat.ne_of_lt (Heap.lt_size e)) e
  exact h pins _ σ H xs _ Q I1 (by simpa using rv) hw
/-- o[i] = .. -/
def gSub (to ti : TE) (t : TSet) : TG := fun v σ H Q => to σ H fun o H1 => ti σ H1 fun i H2 => t o i v H2 fun H3 => Q σ H3
theorem pg_sub {o i : Expr} {to ti : TE} {t : TSet} (ho : PE X o to) (hi : PE X i ti) (hs : PSet X t)
    (ha : ∀ v, assign (.Subscript o i pos) X.env v = (do
      let ov ← holding [v] (eval o X.env)
      let iv ← holding [v, ov] (eval i X.env)
      standAt pos
      holding [v, ov, iv] (setItem ov iv v)
      release [v, ov, iv] []) := by intro _; rfl) : PG X (.Subscript o i pos) (gSub to ti t) := by
  intro pins s σ H v u Q I r h
  rw [ha]
  refine wpAny_bind (wpAny_holding (thn (ho pins s σ H _ I h) fun ov s1 ⟨x, H1, I1, r1, q1⟩ => ?_))
  refine wpAny_bind (wpAny_holding (thn (hi pins s1 σ H1 _ I1 q1) fun iv s2 ⟨y, H2, I2, r2, q2⟩ => ?_))
  refine wpAny_bind (wpAny_standAt (wpAny_bind (wpAny_holding (thn (hs pins s2 σ H2 x y v ov iv u _ I2 r1 r2 r q2) fun _ s3 ⟨H3, I3, q3⟩ => ?_))))
  exact wpAny_release ⟨σ, H3, I3, q3⟩
/-- target = value -/
def tAsg (te : TE) (g : TG) : TS := fun D σ H => te σ H fun x H1 => g x σ H1 D.nx
theorem ps_asg {tg e : Expr} {te : TE} {g : TG} (he : PE X e te) (hg : PG X tg g) (hs : swapsWithSole [tg] e pos.line X.env = pure false := by rfl) (hw : swappedStores [tg] e X.env = pure none := by rfl)
    (h1 : (assignEach [tg] X.env).map (·.2) = [assign tg X.env] := by rfl) : PS X (.Assign [tg] e pos) (tAsg te g) := by
  intro pins s σ H D I h
  refine wpAny_Assign_stores (thn (he pins s σ H _ I h) fun v s1 ⟨x, H1, I1, r1, q1⟩ => ?_) hs hw
  rw [h1]
  exact thn (hg pins s1 σ H1 x v _ I1 r1 q1) fun _ s2 q => q
/-- name = value -/
theorem ps_set {i : Nat} {x : Str} {e : Expr} {te : TE} {pos' : Pos} (hN : X.N.Nodup) (hi : X.N[i]? = some x) (hx : Loc X.env.scope x) (he : PE X e te) (hs : swapsWith e (some (.Name x pos')) pos.line X.env = pure false := by rfl) (hf : X.fn x = true ∨ X.env.scope.names.lookup x = some .local := by first | exact .inl rfl | exact .inr rfl | assumption) :
    PS X (.Assign [.Name x pos'] e pos) (tAsg te (gName i)) := by
  intro pins s σ H D I h
  refine wpAny_Assign_Name (thn (he pins s σ H _ I h) fun v s1 ⟨y, H1, I1, r1, q1⟩ => ?_) hs
  exact store_ok I1 hN hi hx r1 (fun s2 I2 => ⟨_, H1, I2, q1⟩) hf
/-- a, b = x, y with plain local names: stored from the right; the pair itself is not tracked (the opening rows as in PyProof/Rows/TupAssign.lean:23) -/
def tPar (i j : Nat) (ta : TA) : TS := fun D σ H => ta σ H fun vs H1 => ∃ v w, vs = [v, w] ∧ D.nx ((σ.set i (some v)).set j (some w)) H1
theorem ps_par {i j : Nat} {x y : Str} {a b : Expr} {ta : TA} {px py pt : Pos} {kt k2 pt2} (hc : X.calm = true) (hN : X.N.Nodup) (hi : X.N[i]? = some x) (hj : X.N[j]? = some y) (hij : i ≠ j)
    (hx : X.env.scope.names.lookup x = some .local) (hy : X.env.scope.names.lookup y = some .local) (ha : PA X [a, b] ta)
    (hw : swappedStores [.Tuple [.Name x px, .Name y py] kt pt] (.Tuple [a, b] k2 pt2) X.env = pure (some [x, y]))
    (hs : swapsWithSole [.Tuple [.Name x px, .Name y py] kt pt] (.Tuple [a, b] k2 pt2) pos.line X.env = pure false := by rfl) :
    PS X (.Assign [.Tuple [.Name x px, .Name y py] kt pt] (.Tuple [a, b] k2 pt2) pos) (tPar i j ta) := by
  intro pins s σ H D I h
  rw [exec_Assign_arm]
  refine wpAny_bind (wpAny_standAt ?_)
  rw [hs]
  refine wpAny_bind (wpAny_pure ?_)
  rw [if_neg (by decide)]
  refine wpAny_bind (Tuple_ (thn (ha _ pins s σ H _ I h) fun us s1 ⟨vs, H1, I1, r1, q1⟩ => ?_))
  obtain ⟨v, w, e1, q1⟩ := q1
  subst e1
  obtain ⟨u1, u2, rfl, rv, rw'⟩ : ∃ u1 u2, us = [u1, u2] ∧ RelV v u1 ∧ RelV w u2 := by
    cases r1 with
    | cons p q =>
      cases q with
      | cons p' q' =>
        cases q'
        exact ⟨_, _, rfl, p, p'⟩
  refine wpAny_newObj_type ?_ (by show 2 ≤ sizeLine; decide)
  have I2 : Inv X pins σ H1 { s1 with heap := s1.heap.push { cls := .type "tuple", data := .seq [u1, u2].toArray } } := I1.kept (t' := s1.toks) fun b o e => Heap.get?_push_of_some _ e
  rw [hw]
  refine wpAny_bind (wpAny_pure ?_)
  show wpAny (model X.prog X.w) X.A (do rule "assign.swapped-stores"; let items ← unpackItems (.ref s1.heap.objs.size) 2 none; assignInOrder [fun v => bindName X.env y v, fun v => bindName X.env x v] items.reverse; pure Flow.next) _ _ _
  refine wpAny_bind (wpAny_rule (wpAny_bind (unpackItems_tuple (items := #[u1, u2]) (I.ok.hd hc) (IsTup.new s1.heap _) fun h' hx' => ?_)))
  have I3 := I2.kept (h' := h') (t' := s1.toks) fun b o e => hx' b o (Nat.ne_of_lt (Heap.lt_size e)) e
  show wpAny _ _ (assignInOrder [fun v => bindName X.env y v, fun v => bindName X.env x v] [u2, u1] >>= fun _ => pure Flow.next) _ _ _
  refine wpAny_bind (assignInOrder_cons (wpAny_bindName (store_ok I3 hN hj (.inl hy) rw' (fun s2 I4 => ?_) (.inr hy))))
  refine assignInOrder_cons (wpAny_bindName (store_ok I4 hN hi (.inl hx) rv (fun s3 I5 => assignInOrder_nil (wpAny_pure ?_)) (.inr hx)))
  rw [List.set_comm _ _ (Ne.symm hij)] at I5
  exact ⟨_, H1, I5, q1⟩
/-- name op= e -/
def tAug (i : Nat) (te : TE) (ti : TIp) : TS := fun D σ H => ∃ x, σ[i]? = some (some x) ∧ te σ H fun y H1 => ti x y H1 fun z H2 => D.nx (σ.set i (some z)) H2
theorem ps_aug {i : Nat} {x : Str} {e : Expr} {te : TE} {op : Operator} {ti : TIp} {pos' : Pos} (hN : X.N.Nodup) (hi : X.N[i]? = some x) (hx : Loc X.env.scope x) (he : PE X e te) (ho : PIp X op ti) (hf : X.fn x = true ∨ X.env.scope.names.lookup x = some .local := by first | exact .inl rfl | exact .inr rfl | assumption) :
    PS X (.AugAssign (.Name x pos') op e pos) (tAug i te ti) := by
  intro pins s σ H D I h
  obtain ⟨v, e1, h⟩ := h
  obtain ⟨m, hn, hl⟩ := I.loc
  have vis : Vis X.env.scope x := by rcases hx with k | k; exact .inl k; exact .inr (.inl k)
  obtain ⟨u, r, l⟩ := hl i x v hi e1 vis
  refine wpAny_AugAssign_Name ?_
  have go : wpAny (model X.prog X.w) X.A (eval e X.env) (fun w s₂ => wpAny (model X.prog X.w) X.A (inplaceOp op u w) (fun r s₃ => wpAny (model X.prog X.w) X.A (storeName X.env x r) (fun _ => SP X pins D .next) X.xe s₃) X.xe s₂) X.xe s := by
    refine thn (he pins s σ H _ I h) fun w s1 ⟨y, H1, I1, r1, q1⟩ => ?_
    refine thn (ho pins s1 σ H1 v y u w _ I1 r r1 q1) fun z s2 ⟨zv, H2, I2, r2, q2⟩ => ?_
    exact store_ok I2 hN hi hx r2 (fun s3 I3 => ⟨_, H2, I3, q2⟩) hf
  rcases l with ⟨hk, hm⟩ | ⟨hk, c, hc, hcell⟩
  · exact wpAny_loadName_local I.ok.kind hk hn hm go
  · rcases hk with hk | hk
    · exact wpAny_loadName_cell I.ok.kind hk hc hcell go
    · rcases hx with k | k
      · have : X.env.scope.names.lookup x = some .free := hk
        rw [k] at this; cases this
      · have : X.env.scope.names.lookup x = some .free := hk
        rw [k] at this; cases this
/-- o[i] op= e -/
def tAugS (to ti te : TE) (tget : V → V → Hp → VK → Prop) (tip : TIp) (tset : TSet) : TS := fun D σ H => to σ H fun o H1 => ti σ H1 fun i H2 => tget o i H2 fun x H3 => te σ H3 fun y H4 => tip x y H4 fun z H5 => tset o i z H5 fun H6 => D.nx σ H6
/-- o[i], by values -/
def PGet (X : Cx) (t : V → V → Hp → VK → Prop) : Prop :=
  ∀ (pins : List (Addr × Obj)) (s : Shared) (σ : St) (H : Hp) (o i : V) (ov iv : Value) (Q : VK), Inv X pins σ H s → RelV o ov → RelV i iv → t o i H Q →
    wpAny (model X.prog X.w) X.A (getItem ov iv) (EP X pins σ Q) X.xe s
theorem ps_augS {o i e : Expr} {to ti te : TE} {tget : V → V → Hp → VK → Prop} {tip : TIp} {tset : TSet} {op : Operator} {tpos : Pos} (ho : PE X o to) (hi : PE X i ti) (hg : PGet X tget) (he : PE X e te) (hp : PIp X op tip) (hs : PSet X tset)
    (ha : ∀ ov iv new, augStore i ov iv new = (do holding [new, ov, iv] (setItem ov iv new); release [new, ov, iv] []; pure .next) := by intros; rfl) : PS X (.AugAssign (.Subscript o i tpos) op e pos) (tAugS to ti te tget tip tset) := by
  intro pins s σ H D I h
  refine wpAny_AugAssign_SubscriptAny (thn (ho pins s σ H _ I h) fun ov s1 ⟨x1, H1, I1, r1, q1⟩ => ?_) ha
  refine thn (hi pins s1 σ H1 _ I1 q1) fun iv s2 ⟨x2, H2, I2, r2, q2⟩ => ?_
  refine thn (hg pins s2 σ H2 x1 x2 ov iv _ I2 r1 r2 q2) fun old s3 ⟨x3, H3, I3, r3, q3⟩ => ?_
  refine thn (he pins s3 σ H3 _ I3 q3) fun v s4 ⟨x4, H4, I4, r4, q4⟩ => ?_
  refine thn (hp pins s4 σ H4 x3 x4 old v _ I4 r3 r4 q4) fun new s5 ⟨x5, H5, I5, r5, q5⟩ => ?_
  exact thn (hs pins s5 σ H5 x1 x2 x5 ov iv new _ I5 r1 r2 r5 q5) fun _ s6 ⟨H6, I6, q6⟩ => ⟨σ, H6, I6, q6⟩
/-- ints -/
def ipI (f : Int → Int → Int) : TIp := fun x y H Q => ∃ i j, x = .int i ∧ y = .int j ∧ Q (.int (f i j)) H
theorem ip_add : PIp X .Add (ipI fun i j => i + j) := by
  intro pins s σ H x y v u Q I r1 r2 h
  obtain ⟨i, j, e1, e2, q⟩ := h
  subst e1; subst e2
  obtain ⟨t, rfl⟩ := r1
  obtain ⟨t', rfl⟩ := r2
  exact iadd_int ⟨.int _, H, I.tok _, ⟨_, rfl⟩, q⟩
theorem ip_sub : PIp X .Sub (ipI fun i j => i - j) := by
  intro pins s σ H x y v u Q I r1 r2 h
  obtain ⟨i, j, e1, e2, q⟩ := h
  subst e1; subst e2
  obtain ⟨t, rfl⟩ := r1
  obtain ⟨t', rfl⟩ := r2
  exact isub_int ⟨.int _, H, I.tok _, ⟨_, rfl⟩, q⟩
end

/-! ### while -/
section
variable {X : Cx} {pos : Pos}
/-- the invariant W with its measure -/
def tWhile (c : TT) (tb : TS) : TS := fun D σ H => ∃ W : Nat → St → Hp → Prop, (∃ m, W m σ H) ∧ ∀ m σ H, W m σ H →
  c σ H fun b H1 => if b = true then ∃ N : St → Hp → Prop, (∀ σ' H', N σ' H' → ∃ m', m' < m ∧ W m' σ' H') ∧ tb { D with nx := N, ct := N, bk := D.nx } σ H1 else D.nx σ H1
theorem ps_while {c : Expr} {body : List Stmt} {tc : TT} {tb : TS} (hp : PassesOwn (model X.prog X.w) X.A X.env X.xe) (hc : PT X c tc) (hb : PSs X body tb) : PS X (.While c body [] pos) (tWhile tc tb) := by
  intro pins s σ H D I h
  obtain ⟨W, ⟨m0, w0⟩, turn⟩ := h
  refine wpAny_While (codeAny_whileLoop (fun n s' => ∃ σ' H', Inv X pins σ' H' s' ∧ W n σ' H') ?_ m0 ⟨σ, H, I, w0⟩)
  rintro n s1 ⟨σ1, H1, I1, w1⟩
  refine wpAny_passesOwn hp (thn (hc pins s1 σ1 H1 _ I1 (turn n σ1 H1 w1)) fun b s2 ⟨H2, I2, q2⟩ => ?_)
  cases b with
  | true =>
    obtain ⟨N, hN, q2⟩ := q2
    rw [if_pos rfl]
    refine wpAny_passesOwn hp (thn (hb pins s2 σ1 H2 _ I2 q2) fun f s3 q3 => ?_)
    cases f with
    | next =>
      obtain ⟨σ3, H3, I3, n3⟩ := q3
      obtain ⟨m', hm, w3⟩ := hN σ3 H3 n3
      exact ⟨m', hm, σ3, H3, I3, w3⟩
    | cont =>
      obtain ⟨σ3, H3, I3, n3⟩ := q3
      obtain ⟨m', hm, w3⟩ := hN σ3 H3 n3
      exact ⟨m', hm, σ3, H3, I3, w3⟩
    | brk => exact q3
    | ret v => exact q3
  | false =>
    rw [if_neg Bool.false_ne_true]
    exact wpAny_execs_nil ⟨σ1, H2, I2, q2⟩
end

/-! ### what a loop or a comprehension walks -/
/-- at turn i: it yields x (the heap may grow), or it stops -/
structure It where
  go : Nat → Hp → Prop
  yld : Nat → Hp → V → Hp → Prop
  stop : Nat → Hp → Prop
/-- the iterator's own objects may turn: they are not the frame's, not pinned, younger than the entry (or a comprehension's own) -/
def FpOk (X : Cx) (pins : List (Addr × Obj)) (H : Hp) (b : Addr) : Prop :=
  H b = none ∧ b ≠ X.env.locals ∧ b ∉ X.fs ∧ (b ∈ X.ex ∨ X.s₀.heap.objs.size ≤ b) ∧ (∀ x c, X.env.cells.lookup x = some c → c ≠ b) ∧ ∀ p ∈ X.pn ++ pins, p.1 ≠ b
theorem Inv.fpOk {X : Cx} {pins : List (Addr × Obj)} {σ : St} {H H' : Hp} {s : Shared} {b : Addr} (I : Inv X pins σ H s) (hb : s.heap.objs.size ≤ b) (hn : H' b = none) : FpOk X pins H' b := by
  refine ⟨hn, Nat.ne_of_gt (Nat.lt_of_lt_of_le I.lt hb), I.nofs hb, .inr (Nat.le_trans I.sz hb), fun x c e z => ?_, fun p hp z => ?_⟩
  · obtain ⟨v, q⟩ := I.cell x c e
    exact absurd (Nat.lt_of_lt_of_le q.lt (by rw [z]; exact hb)) (Nat.lt_irrefl _)
  · exact absurd (Nat.lt_of_lt_of_le (Heap.lt_size (I.pin p hp).1) (by rw [z]; exact hb)) (Nat.lt_irrefl _)
structure Turn (P : Program) (w : World) (K : PySem.W.Frag) (tg : Expr) (J : It) (fp : List Addr) (it : Addr) (tn : Nat → Heap → Prop) : Prop where
  mem : it ∈ fp
  obj : ∀ i h, tn i h → ∀ b ∈ fp, ∃ o, h.get? b = some o ∧ ∀ v, o.data ≠ .cell v
  keep : ∀ i h h', tn i h → (∀ b ∈ fp, ∀ o, h.get? b = some o → h'.get? b = some o) → tn i h'
  item : ∀ (X : Cx), X.prog = P → X.w = w → X.K = K → X.calm = true → ∀ (i : Nat) (pins : List (Addr × Obj)) (s : Shared) (σ : St) (H : Hp) (E : Value → Shared → Prop), Inv X pins σ H s → (∀ b ∈ fp, FpOk X pins H b) → tn i s.heap → J.go i H →
    wpAny (model P w) X.A (pyNext (.ref it)) (fun r s1 => ∃ u, r = some u ∧
      wpAny (model P w) X.A (letOwnedTupleGo tg (.ref it) u) (fun _ s2 => ∃ x H', Inv X pins σ H' s2 ∧ RelV x u ∧ J.yld i H x H' ∧ tn (i + 1) s2.heap ∧ ∀ b ∈ fp, H' b = none) E s1) E s
  done : ∀ (X : Cx), X.prog = P → X.w = w → X.K = K → X.calm = true → ∀ (i : Nat) (pins : List (Addr × Obj)) (s : Shared) (σ : St) (H : Hp) (E : Value → Shared → Prop), Inv X pins σ H s → (∀ b ∈ fp, FpOk X pins H b) → tn i s.heap → J.stop i H →
    wpAny (model P w) X.A (pyNext (.ref it)) (fun r s1 => r = none ∧ Inv X pins σ H s1) E s
  self : ∀ (A : Around) (i : Nat) (s : Shared) (Q : Value → Shared → Prop) (E : Value → Shared → Prop), tn i s.heap → Q (.ref it) s → wpAny (model P w) A (pyIter (.ref it)) Q E s
abbrev TI := St → Hp → (It → Hp → Prop) → Prop
/-- an iterator has come -/
def PIE (X : Cx) (pins : List (Addr × Obj)) (σ : St) (tg : Expr) (R : It → Hp → Prop) (itv : Value) (s2 : Shared) : Prop :=
  ∃ (it : Addr) (fp : List Addr) (tn : Nat → Heap → Prop) (J : It) (H' : Hp), itv = .ref it ∧ Inv X pins σ H' s2 ∧ Turn X.prog X.w X.K tg J fp it tn ∧ tn 0 s2.heap ∧ (∀ b ∈ fp, FpOk X pins H' b) ∧ R J H'
def PI (X : Cx) (tg iter : Expr) (wi : TI) : Prop :=
  ∀ (pins : List (Addr × Obj)) (s : Shared) (σ : St) (H : Hp) (R : It → Hp → Prop), Inv X pins σ H s → wi σ H R →
    wpAny (model X.prog X.w) X.A (eval iter X.env) (fun v s1 => wpAny (model X.prog X.w) X.A (pyIter v) (PIE X pins σ tg R) X.xe s1) X.xe s

/-- the step ahead of the store is nothing for an iterator that keeps no tuple -/
theorem go_of {M : Model} {A : Around} {E : Value → Shared → Prop} {s : Shared} {tg : Expr} {it : Addr} {u : Value} {o : Obj} {n : String} {vs : Array Value} {Q : Unit → Shared → Prop} (ho : s.heap.get? it = some o) (hc : o.cls = .type n) (hd : o.data = .fields vs)
    (hn : ["enumerate", "zip", "dict_itemiterator", "dict_reverseitemiterator", "odict_iterator", "itertools.zip_longest", "itertools.pairwise"].contains n = false) (hQ : Q () s) : wpAny M A (letOwnedTupleGo tg (.ref it) u) Q E s := by
  unfold letOwnedTupleGo
  cases tg <;> first
    | exact wpAny_pure hQ
    | (cases u <;> first
        | exact wpAny_pure hQ
        | (refine wpAny_bind (wpAny_load ho ?_)
           rw [hc, hd]
           show wpAny M A (if (["enumerate", "zip", "dict_itemiterator", "dict_reverseitemiterator", "odict_iterator", "itertools.zip_longest", "itertools.pairwise"].contains n && vs[0]? == some (rawInt _)) = true then _ else _) Q E s
           rw [if_neg (by intro h; rw [hn, Bool.false_and] at h; cases h)]
           exact wpAny_pure hQ))

/-- the list at a, as it stands at each turn (a loop may append to it) -/
def Itl (K : PySem.W.Frag) (a : Addr) : It :=
  ⟨fun i H => ∃ xs x, SqL K H a xs ∧ xs[i]? = some x, fun i H x H' => H' = H ∧ ∀ xs, SqL K H a xs → xs[i]? = some x, fun i H => ∃ xs, SqL K H a xs ∧ xs.length ≤ i⟩
def Itt (K : PySem.W.Frag) (a : Addr) : It :=
  ⟨fun i H => ∃ xs x, SqT K H a xs ∧ xs[i]? = some x, fun i H x H' => H' = H ∧ ∀ xs, SqT K H a xs → xs[i]? = some x, fun i H => ∃ xs, SqT K H a xs ∧ xs.length ≤ i⟩
/-- lo, lo + 1, .. (n of them) -/
def Itr (lo : Int) (n : Nat) : It := ⟨fun i _ => i < n, fun i H x H' => H' = H ∧ x = .int (lo + i), fun i _ => n ≤ i⟩
theorem turn_list {P : Program} {w : World} {K : PySem.W.Frag} {tg : Expr} (a it : Addr) : Turn P w K tg (Itl K a) [it] it (fun i h => h.IsListIter it a i) where
  mem := by simp
  obj := fun i h st b hb => by
    have e : b = it := by simpa using hb
    subst e
    obtain ⟨o, e, c, d⟩ := st
    exact ⟨o, e, fun v z => by rw [d] at z; cases z⟩
  keep := fun i h h' st k => st.at fun o e => k it (by simp) o e
  item := by
    intro X hP hw hK hc i pins s σ H E I hf st hg
    subst hP hw hK
    obtain ⟨xs, x, hq, hx⟩ := hg
    obtain ⟨its, rv, p, hz⟩ := I.list hq
    obtain ⟨u, hu, ru⟩ := rv.get hx
    obtain ⟨f0, f1, f2, f3, f4, f5⟩ := hf it (by simp)
    refine wpAny_pyNext_list_item st p.isList (x := u) (by simpa using hu) fun h' st' sb => ?_
    have I1 : Inv X pins σ H { s with heap := h' } := I.turned (t' := s.toks) (fun b o hb e => (sb.2 b hb).trans e) f0 f1 f3 f4 f5
    obtain ⟨o, e, c, d⟩ := id st'
    exact ⟨u, rfl, go_of (s := { s with heap := h' }) e c d (by decide) ⟨x, H, I1, ru, ⟨rfl, fun ys hy => by rw [I.list_inj hy hq]; exact hx⟩, st', fun b hb => (hf b hb).1⟩⟩
  done := by
    intro X hP hw hK hc i pins s σ H E I hf st hg
    subst hP hw hK
    obtain ⟨xs, hq, hx⟩ := hg
    obtain ⟨its, rv, p, hz⟩ := I.list hq
    obtain ⟨f0, f1, f2, f3, f4, f5⟩ := hf it (by simp)
    have hl := rv.length
    exact wpAny_pyNext_list_end (I.ok.hd hc) st p.isList (by simp; omega) fun h' eb => ⟨rfl, I.turned (t' := s.toks) (fun b o hb e => eb b o hb e) f0 f1 f3 f4 f5⟩
  self := fun _ _ _ _ _ st h => wpAny_pyIter_listiter st h
theorem turn_tuple {P : Program} {w : World} {K : PySem.W.Frag} {tg : Expr} (a it : Addr) : Turn P w K tg (Itt K a) [it] it (fun i h => h.IsTupleIter it a i) where
  mem := by simp
  obj := fun i h st b hb => by
    have e : b = it := by simpa using hb
    subst e
    obtain ⟨o, e, c, d⟩ := st
    exact ⟨o, e, fun v z => by rw [d] at z; cases z⟩
  keep := fun i h h' st k => st.at fun o e => k it (by simp) o e
  item := by
    intro X hP hw hK hc i pins s σ H E I hf st hg
    subst hP hw hK
    obtain ⟨xs, x, hq, hx⟩ := hg
    obtain ⟨its, rv, p, hz⟩ := I.tuple hq
    obtain ⟨u, hu, ru⟩ := rv.get hx
    obtain ⟨f0, f1, f2, f3, f4, f5⟩ := hf it (by simp)
    refine wpAny_pyNext_tuple_item st (show s.heap.IsTuple a its.toArray from p) (x := u) (by simpa using hu) fun h' st' sb => ?_
    have I1 : Inv X pins σ H { s with heap := h' } := I.turned (t' := s.toks) (fun b o hb e => (sb.2 b hb).trans e) f0 f1 f3 f4 f5
    obtain ⟨o, e, c, d⟩ := id st'
    exact ⟨u, rfl, go_of (s := { s with heap := h' }) e c d (by decide) ⟨x, H, I1, ru, ⟨rfl, fun ys hy => by rw [I.tuple_inj hy hq]; exact hx⟩, st', fun b hb => (hf b hb).1⟩⟩
  done := by
    intro X hP hw hK hc i pins s σ H E I hf st hg
    subst hP hw hK
    obtain ⟨xs, hq, hx⟩ := hg
    obtain ⟨its, rv, p, hz⟩ := I.tuple hq
    obtain ⟨f0, f1, f2, f3, f4, f5⟩ := hf it (by simp)
    have hl := rv.length
    exact wpAny_pyNext_tuple_end (I.ok.hd hc) st (show s.heap.IsTuple a its.toArray from p) (by simp; omega) fun h' eb => ⟨rfl, I.turned (t' := s.toks) (fun b o hb e => eb b o hb e) f0 f1 f3 f4 f5⟩
  self := fun _ _ _ _ _ st h => wpAny_pyIter_tupleiter st h
theorem turn_range {P : Program} {w : World} {K : PySem.W.Frag} {tg : Expr} (it : Addr) (lo : Int) (n : Nat) : Turn P w K tg (Itr lo n) [it] it (fun i h => IsRangeIter h it (lo + (i : Nat) * 1) ((n : Int) - (i : Nat)) 1) where
  mem := by simp
  obj := fun i h st b hb => by
    have e : b = it := by simpa using hb
    subst e
    exact ⟨_, st, fun v z => by
      have z' : Data.fields _ = Data.cell v := z
      cases z'⟩
  keep := fun i h h' st k => k it (by simp) _ st
  item := by
    intro X hP hw hK hc i pins s σ H E I hf st hg
    subst hP hw hK
    obtain ⟨f0, f1, f2, f3, f4, f5⟩ := hf it (by simp)
    have W := Walks.range (prog := X.prog) (w := X.w) (I.ok.hd hc) it lo 1 n
    refine W.item i s _ _ hg st fun v h' tk hv st' kk => ?_
    obtain ⟨t, rfl⟩ := hv
    have I1 : Inv X pins σ H { s with heap := h', toks := tk } := I.turned (fun b o hb e => kk b o (by simpa using hb) e) f0 f1 f3 f4 f5
    refine ⟨_, rfl, go_of (s := { s with heap := h', toks := tk }) (n := "range_iterator") st' rfl rfl (by decide) ⟨.int (lo + i), H, I1, ⟨t, ?_⟩, ⟨rfl, rfl⟩, st', fun b hb => (hf b hb).1⟩⟩
    rw [Int.mul_one]
  done := by
    intro X hP hw hK hc i pins s σ H E I hf st hg
    subst hP hw hK
    obtain ⟨f0, f1, f2, f3, f4, f5⟩ := hf it (by simp)
    exact wpAny_pyNext_range_end (I.ok.hd hc) st (by have : n ≤ i := hg; omega) fun h' eb => ⟨rfl, I.turned (t' := s.toks) (fun b o hb e => eb b o hb e) f0 f1 f3 f4 f5⟩
  self := fun _ _ _ _ _ st h => wpAny_pyIter_rangeiter st h
end L2

namespace L2
open PySem PySem.Spec PyProof.Rows
section
variable {X : Cx} {tg : Expr}
def iList (K : PySem.W.Frag) (tl : TE) : TI := fun σ H R => tl σ H fun x H1 => ∃ a, x = .ref a ∧ (∃ xs, SqL K H1 a xs) ∧ R (Itl K a) H1
def iTup (K : PySem.W.Frag) (tl : TE) : TI := fun σ H R => tl σ H fun x H1 => ∃ a, x = .ref a ∧ (∃ xs, SqT K H1 a xs) ∧ R (Itt K a) H1
theorem pi_list {l : Expr} {tl : TE} (hl : PE X l tl) : PI X tg l (iList X.K tl) := by
  intro pins s σ H R I h
  refine thn (hl pins s σ H _ I h) fun v s1 ⟨x, H1, I1, r1, q1⟩ => ?_
  obtain ⟨a, e, ⟨xs, hq⟩, q⟩ := q1
  subst e
  cases r1
  obtain ⟨its, rv, p, hz⟩ := I1.list hq
  refine wpAny_pyIter_list p.isList ?_
  refine ⟨s1.heap.objs.size, [s1.heap.objs.size], _, _, H1, rfl, I1.kept (t' := s1.toks) fun b o e => Heap.get?_push_of_some _ e, turn_list a _, ⟨_, Heap.get?_push_size _ rfl, rfl, rfl⟩, fun b hb => ?_, q⟩
  have e : b = s1.heap.objs.size := by simpa using hb
  subst e
  exact I1.fpOk (Nat.le_refl _) (I1.hok.fresh (Nat.le_refl _))
theorem pi_tup {l : Expr} {tl : TE} (hl : PE X l tl) : PI X tg l (iTup X.K tl) := by
  intro pins s σ H R I h
  refine thn (hl pins s σ H _ I h) fun v s1 ⟨x, H1, I1, r1, q1⟩ => ?_
  obtain ⟨a, e, ⟨xs, hq⟩, q⟩ := q1
  subst e
  cases r1
  obtain ⟨its, rv, p, hz⟩ := I1.tuple hq
  refine wpAny_pyIter_tuple (show s1.heap.IsTuple a its.toArray from p) ?_
  refine ⟨s1.heap.objs.size, [s1.heap.objs.size], _, _, H1, rfl, I1.kept (t' := s1.toks) fun b o e => Heap.get?_push_of_some _ e, turn_tuple a _, ⟨_, Heap.get?_push_size _ rfl, rfl, rfl⟩, fun b hb => ?_, q⟩
  have e : b = s1.heap.objs.size := by simpa using hb
  subst e
  exact I1.fpOk (Nat.le_refl _) (I1.hok.fresh (Nat.le_refl _))
/-- a range object just made, walked -/
theorem range_it {pins : List (Addr × Obj)} {σ : St} {H : Hp} {s : Shared} {R : It → Hp → Prop} {E : Value → Shared → Prop} {lo hi : Int} {t u v : Tok} {tk : Nat} (I : Inv X pins σ H s) (h1 : -(2 ^ 62) ≤ lo) (h2 : lo < 2 ^ 62) (h3 : -(2 ^ 62) ≤ hi) (h4 : hi < 2 ^ 62)
    (q : R (Itr lo (hi - lo).toNat) H) : wpAny (model X.prog X.w) X.A (pyIter (.ref s.heap.objs.size)) (PIE X pins σ tg R) E { s with heap := s.heap.push { cls := .type "range", data := .fields #[.int lo t, .int hi u, .int 1 v] }, toks := tk } := by
  refine wpAny_pyIter_range (IsRange.new ..) (small_one h1 h2 h3 h4) ?_
  have I1 : Inv X pins σ H { s with heap := s.heap.push { cls := .type "range", data := .fields #[.int lo t, .int hi u, .int 1 v] }, toks := tk } := I.kept fun b o e => Heap.get?_push_of_some _ e
  refine ⟨(s.heap.push { cls := .type "range", data := .fields #[.int lo t, .int hi u, .int 1 v] }).objs.size, [(s.heap.push { cls := .type "range", data := .fields #[.int lo t, .int hi u, .int 1 v] }).objs.size], _, _, H, rfl,
    I1.kept (t' := tk) fun b o e => Heap.get?_push_of_some _ e, turn_range _ lo (hi - lo).toNat, ?_, fun b hb => ?_, q⟩
  · have e1 : lo + ((0 : Nat) : Int) * 1 = lo := by simp
    have e2 : (((hi - lo).toNat : Nat) : Int) - ((0 : Nat) : Int) = Builtin.Range.rangeSize lo hi 1 := by rw [rangeSize_one]; split <;> omega
    show IsRangeIter _ _ (lo + ((0 : Nat) : Int) * 1) ((((hi - lo).toNat : Nat) : Int) - ((0 : Nat) : Int)) 1
    rw [e1, e2]
    exact Heap.get?_push_size _ rfl
  · have e : b = (s.heap.push { cls := .type "range", data := .fields #[.int lo t, .int hi u, .int 1 v] }).objs.size := by simpa using hb
    subst e
    exact I1.fpOk (Nat.le_refl _) (I1.hok.fresh (Nat.le_refl _))
def iRng1 (ta : TA) : TI := fun σ H R => ta σ H fun vs H1 => ∃ j : Int, vs = [.int j] ∧ -(2 ^ 62) ≤ j ∧ j < 2 ^ 62 ∧ R (Itr 0 j.toNat) H1
def iRng2 (ta : TA) : TI := fun σ H R => ta σ H fun vs H1 => ∃ i j : Int, vs = [.int i, .int j] ∧ (-(2 ^ 62) ≤ i ∧ i < 2 ^ 62 ∧ -(2 ^ 62) ≤ j ∧ j < 2 ^ 62) ∧ R (Itr i (j - i).toNat) H1
theorem pi_range1 {a : Expr} {ta : TA} {p pos : Pos} (hg : Gl X "range") (hm : X.mg "range" = none) (ha : PA X [a] ta) (hs : starEach [a] X.env = [(false, eval a X.env)] := by rfl) : PI X tg (.Call (.Name "range" p) [a] [] pos) (iRng1 ta) := by
  intro pins s σ H R I h
  refine Call_ (ld_blt I hg hm boot_range (PyProof.Rows.callWith_type1 (thn (ha pos pins s σ H _ I h) fun us s1 ⟨vs, H1, I1, r1, q1⟩ => ?_) hs rfl))
  obtain ⟨j, e, q1, q2, q⟩ := q1
  subst e
  cases r1 with
  | cons r rr =>
    cases rr
    obtain ⟨t, rfl⟩ := r
    exact call_range_1 (range_it I1 (by omega) (by omega) q1 q2 (by simpa using q))
theorem pi_range2 {a b : Expr} {ta : TA} {p pos : Pos} (hg : Gl X "range") (hm : X.mg "range" = none) (ha : PA X [a, b] ta) (hs : starEach [a, b] X.env = [(false, eval a X.env), (false, eval b X.env)] := by rfl) (hs2 : starEach [b] X.env = [(false, eval b X.env)] := by rfl) :
    PI X tg (.Call (.Name "range" p) [a, b] [] pos) (iRng2 ta) := by
  intro pins s σ H R I h
  refine Call_ (ld_blt I hg hm boot_range (PyProof.Rows.callWith_type1 (thn (ha pos pins s σ H _ I h) fun us s1 ⟨vs, H1, I1, r1, q1⟩ => ?_) (by rw [hs, hs2]) (by rw [hs2]; rfl)))
  obtain ⟨i, j, e, ⟨q1, q2, q3, q4⟩, q⟩ := q1
  subst e
  cases r1 with
  | cons r rr =>
    cases rr with
    | cons r' rr =>
      cases rr
      obtain ⟨t, rfl⟩ := r
      obtain ⟨t', rfl⟩ := r'
      exact call_range_2 (range_it I1 q1 q2 q3 q4 q)

/-! ### for -/
/-- W: the invariant by the turn and a measure; N: what the body is to reach -/
def tFor (wi : TI) (g : TG) (tb : TS) : TS := fun D σ H => wi σ H fun J H1 => ∃ W : Nat → Nat → St → Hp → Prop, (∃ m, W 0 m σ H1) ∧ ∀ i m σ H, W i m σ H →
  (J.stop i H ∧ D.nx σ H) ∨ (J.go i H ∧ ∃ N : St → Hp → Prop, (∀ σ' H', N σ' H' → ∃ m', m' < m ∧ W (i + 1) m' σ' H') ∧ ∀ x H', J.yld i H x H' → g x σ H' fun σ2 H2 => tb { D with nx := N, ct := N, bk := D.nx } σ2 H2)
/-- the records at fp as they stand -/
def pinsAt (fp : List Addr) (h : Heap) : List (Addr × Obj) := fp.filterMap fun b => (h.get? b).map fun o => (b, o)
theorem mem_pinsAt {fp : List Addr} {h : Heap} {b : Addr} {o : Obj} (hb : b ∈ fp) (e : h.get? b = some o) : (b, o) ∈ pinsAt fp h := List.mem_filterMap.mpr ⟨b, hb, by rw [e]; rfl⟩
theorem of_pinsAt {fp : List Addr} {h : Heap} {p : Addr × Obj} (hp : p ∈ pinsAt fp h) : p.1 ∈ fp ∧ h.get? p.1 = some p.2 := by
  obtain ⟨b, hb, e⟩ := List.mem_filterMap.mp hp
  cases q : h.get? b with
  | none => rw [q] at e; cases e
  | some o =>
    rw [q] at e
    have e' : (b, o) = p := Option.some.inj e
    subst e'
    exact ⟨hb, q⟩
theorem Inv.pinned {pins : List (Addr × Obj)} {σ : St} {H : Hp} {s : Shared} {fp : List Addr} (I : Inv X pins σ H s) (hf : ∀ b ∈ fp, FpOk X pins H b) (ho : ∀ b ∈ fp, ∃ o, s.heap.get? b = some o ∧ ∀ v, o.data ≠ .cell v) : Inv X (pins ++ pinsAt fp s.heap) σ H s :=
  I.pins_of fun p hp => (List.mem_append.mp hp).elim (fun z => I.pin p (List.mem_append_right _ z)) fun z => by
    obtain ⟨hb, e⟩ := of_pinsAt z
    obtain ⟨f0, f1, f2, _⟩ := hf p.1 hb
    obtain ⟨o, e', d⟩ := ho p.1 hb
    rw [e] at e'; cases e'
    exact ⟨e, f0, f1, f2, d⟩
theorem Inv.unpinned {pins pl : List (Addr × Obj)} {σ : St} {H : Hp} {s : Shared} (I : Inv X (pins ++ pl) σ H s) : Inv X pins σ H s := I.pins_of fun p hp => I.pin p (List.mem_append_right _ (List.mem_append_left _ hp))
theorem ps_for {iter : Expr} {body : List Stmt} {wi : TI} {g : TG} {tb : TS} {pos : Pos} (hp : PassesOwn (model X.prog X.w) X.A X.env X.xe) (hc : X.calm = true) (hi : PI X tg iter wi) (hg : PG X tg g) (hb : PSs X body tb)
    (hs : ∀ x, foldedSetIterable iter X.env x = pure x := by intro _; rfl) : PS X (.For tg iter body [] pos) (tFor wi g tb) := by
  intro pins s σ H D I h
  refine wpAny_For (thn (hi pins s σ H _ I h) fun v s1 h1 => thn h1 fun itv s2 h2 => ?_) hs
  obtain ⟨it, fp, tn, J, H2, e, I2, T, st2, f2, W, ⟨m0, w0⟩, turn⟩ := h2
  subst e
  -- what stays true of the iterator's objects through the loop
  have stat : ∀ {H' : Hp}, (∀ b ∈ fp, H' b = none) → ∀ b ∈ fp, FpOk X pins H' b := fun hn b hb => ⟨hn b hb, (f2 b hb).2⟩
  refine codeAny_forLoop_any (fun n s' => ∃ i σ' H', Inv X pins σ' H' s' ∧ tn i s'.heap ∧ (∀ b ∈ fp, H' b = none) ∧ W i n σ' H') ?_ m0 ⟨0, σ, H2, I2, st2, fun b hb => (f2 b hb).1, w0⟩
  rintro n s3 ⟨i, σ3, H3, I3, st3, fr3, w3⟩
  rcases turn i n σ3 H3 w3 with ⟨stop, qn⟩ | ⟨go, N, hN, step⟩
  · refine wpAny_passesOwn hp (thn (T.done X rfl rfl rfl hc i pins s3 σ3 H3 X.xe I3 (stat fr3) st3 stop) fun r s4 ⟨hr, I4⟩ => ?_)
    subst hr
    exact wpAny_execs_nil ⟨σ3, H3, I4, qn⟩
  · refine wpAny_passesOwn hp (thn (T.item X rfl rfl rfl hc i pins s3 σ3 H3 X.xe I3 (stat fr3) st3 go) fun r s4 ⟨u, hr, h4⟩ => ?_)
    subst hr
    refine wpAny_passesOwn hp (thn h4 fun _ s5 ⟨x, H5, I5, r5, y5, st5, fr5⟩ => ?_)
    have I5' := I5.pinned (stat fr5) (T.obj _ _ st5)
    refine wpAny_passesOwn hp (thn (hg _ s5 σ3 H5 x u _ I5' r5 (step x H5 y5)) fun _ s6 ⟨σ6, H6, I6, q6⟩ => ?_)
    refine wpAny_passesOwn hp (thn (hb _ s6 σ6 H6 _ I6 q6) fun f s7 q7 => ?_)
    have again : ∀ {σ7 : St} {H7 : Hp}, Inv X (pins ++ pinsAt fp s5.heap) σ7 H7 s7 → N σ7 H7 → ∃ m, m < n ∧ ∃ i σ' H', Inv X pins σ' H' s7 ∧ tn i s7.heap ∧ (∀ b ∈ fp, H' b = none) ∧ W i m σ' H' := fun {σ7 H7} I7 n7 => by
      obtain ⟨m', hm, w7⟩ := hN σ7 H7 n7
      refine ⟨m', hm, i + 1, σ7, H7, I7.unpinned, T.keep _ _ _ st5 fun b hb o e => (I7.pin (b, o) (List.mem_append_right _ (List.mem_append_right _ (mem_pinsAt hb e)))).1, fun b hb => ?_, w7⟩
      obtain ⟨o, e, d⟩ := T.obj _ _ st5 b hb
      exact (I7.pin (b, o) (List.mem_append_right _ (List.mem_append_right _ (mem_pinsAt hb e)))).2.1
    cases f with
    | next => obtain ⟨σ7, H7, I7, n7⟩ := q7; exact again I7 n7
    | cont => obtain ⟨σ7, H7, I7, n7⟩ := q7; exact again I7 n7
    | brk => obtain ⟨σ7, H7, I7, q7⟩ := q7; exact ⟨σ7, H7, I7.unpinned, q7⟩
    | ret v => obtain ⟨x7, σ7, H7, I7, r7, q7⟩ := q7; exact ⟨x7, σ7, H7, I7.unpinned, r7, q7⟩
end

/-! ### the forms one uses -/
/-- over a list that the body leaves as it is -/
theorem for_list {K : PySem.W.Frag} {a : Addr} {xs : List V} {g : TG} {tb : TS} {D : Ends} {σ : St} {H : Hp} (Pv : Nat → St → Hp → Prop) (h0 : Pv 0 σ H) (hl : ∀ i σ H, i ≤ xs.length → Pv i σ H → SqL K H a xs)
    (hs : ∀ i x σ H, xs[i]? = some x → Pv i σ H → g x σ H fun σ2 H2 => tb { D with nx := Pv (i + 1), ct := Pv (i + 1), bk := D.nx } σ2 H2) (hd : ∀ σ H, Pv xs.length σ H → D.nx σ H) :
    ∃ W : Nat → Nat → St → Hp → Prop, (∃ m, W 0 m σ H) ∧ ∀ i m σ H, W i m σ H →
      ((Itl K a).stop i H ∧ D.nx σ H) ∨ ((Itl K a).go i H ∧ ∃ N : St → Hp → Prop, (∀ σ' H', N σ' H' → ∃ m', m' < m ∧ W (i + 1) m' σ' H') ∧ ∀ x H', (Itl K a).yld i H x H' → g x σ H' fun σ2 H2 => tb { D with nx := N, ct := N, bk := D.nx } σ2 H2) := by
  refine ⟨fun i m σ H => m = xs.length - i ∧ i ≤ xs.length ∧ Pv i σ H, ⟨xs.length, by simp, Nat.zero_le _, h0⟩, ?_⟩
  rintro i m σ H ⟨rfl, hi, p⟩
  have q := hl i σ H hi p
  by_cases hlt : i < xs.length
  · refine .inr ⟨⟨xs, xs[i], q, by simp [hlt]⟩, Pv (i + 1), fun σ' H' p' => ⟨xs.length - (i + 1), by omega, rfl, hlt, p'⟩, fun x H' y => ?_⟩
    obtain ⟨e, y⟩ := y
    subst e
    exact hs i x σ _ (y xs q) p
  · have e : i = xs.length := by omega
    subst e
    exact .inl ⟨⟨xs, q, Nat.le_refl _⟩, hd σ H p⟩
theorem for_tup {K : PySem.W.Frag} {a : Addr} {xs : List V} {g : TG} {tb : TS} {D : Ends} {σ : St} {H : Hp} (Pv : Nat → St → Hp → Prop) (h0 : Pv 0 σ H) (hl : ∀ i σ H, i ≤ xs.length → Pv i σ H → SqT K H a xs)
    (hs : ∀ i x σ H, xs[i]? = some x → Pv i σ H → g x σ H fun σ2 H2 => tb { D with nx := Pv (i + 1), ct := Pv (i + 1), bk := D.nx } σ2 H2) (hd : ∀ σ H, Pv xs.length σ H → D.nx σ H) :
    ∃ W : Nat → Nat → St → Hp → Prop, (∃ m, W 0 m σ H) ∧ ∀ i m σ H, W i m σ H →
      ((Itt K a).stop i H ∧ D.nx σ H) ∨ ((Itt K a).go i H ∧ ∃ N : St → Hp → Prop, (∀ σ' H', N σ' H' → ∃ m', m' < m ∧ W (i + 1) m' σ' H') ∧ ∀ x H', (Itt K a).yld i H x H' → g x σ H' fun σ2 H2 => tb { D with nx := N, ct := N, bk := D.nx } σ2 H2) := by
  refine ⟨fun i m σ H => m = xs.length - i ∧ i ≤ xs.length ∧ Pv i σ H, ⟨xs.length, by simp, Nat.zero_le _, h0⟩, ?_⟩
  rintro i m σ H ⟨rfl, hi, p⟩
  have q := hl i σ H hi p
  by_cases hlt : i < xs.length
  · refine .inr ⟨⟨xs, xs[i], q, by simp [hlt]⟩, Pv (i + 1), fun σ' H' p' => ⟨xs.length - (i + 1), by omega, rfl, hlt, p'⟩, fun x H' y => ?_⟩
    obtain ⟨e, y⟩ := y
    subst e
    exact hs i x σ _ (y xs q) p
  · have e : i = xs.length := by omega
    subst e
    exact .inl ⟨⟨xs, q, Nat.le_refl _⟩, hd σ H p⟩
theorem for_range {lo : Int} {n : Nat} {g : TG} {tb : TS} {D : Ends} {σ : St} {H : Hp} (Pv : Nat → St → Hp → Prop) (h0 : Pv 0 σ H)
    (hs : ∀ i σ H, i < n → Pv i σ H → g (.int (lo + i)) σ H fun σ2 H2 => tb { D with nx := Pv (i + 1), ct := Pv (i + 1), bk := D.nx } σ2 H2) (hd : ∀ σ H, Pv n σ H → D.nx σ H) :
    ∃ W : Nat → Nat → St → Hp → Prop, (∃ m, W 0 m σ H) ∧ ∀ i m σ H, W i m σ H →
      ((Itr lo n).stop i H ∧ D.nx σ H) ∨ ((Itr lo n).go i H ∧ ∃ N : St → Hp → Prop, (∀ σ' H', N σ' H' → ∃ m', m' < m ∧ W (i + 1) m' σ' H') ∧ ∀ x H', (Itr lo n).yld i H x H' → g x σ H' fun σ2 H2 => tb { D with nx := N, ct := N, bk := D.nx } σ2 H2) := by
  refine ⟨fun i m σ H => m = n - i ∧ i ≤ n ∧ Pv i σ H, ⟨n, by simp, Nat.zero_le _, h0⟩, ?_⟩
  rintro i m σ H ⟨rfl, hi, p⟩
  by_cases hlt : i < n
  · refine .inr ⟨hlt, Pv (i + 1), fun σ' H' p' => ⟨n - (i + 1), by omega, rfl, hlt, p'⟩, fun x H' y => ?_⟩
    obtain ⟨e, y⟩ := y
    subst e y
    exact hs i σ _ hlt p
  · have e : i = n := by omega
    subst e
    exact .inl ⟨Nat.le_refl _, hd σ H p⟩
/-- while, by a word and a measure of the state -/
theorem while_by {c : TT} {tb : TS} {D : Ends} {σ : St} {H : Hp} (Pv : St → Hp → Prop) (μ : St → Hp → Nat) (h0 : Pv σ H)
    (hs : ∀ σ H, Pv σ H → c σ H fun b H1 => if b = true then tb { D with nx := fun σ' H' => Pv σ' H' ∧ μ σ' H' < μ σ H, ct := fun σ' H' => Pv σ' H' ∧ μ σ' H' < μ σ H, bk := D.nx } σ H1 else D.nx σ H1)
    (mono : ∀ σ H Q Q', (∀ b H1, Q b H1 → Q' b H1) → c σ H Q → c σ H Q') : tWhile c tb D σ H := by
  refine ⟨fun m σ H => m = μ σ H ∧ Pv σ H, ⟨_, rfl, h0⟩, ?_⟩
  rintro m σ H ⟨rfl, p⟩
  refine mono σ H _ _ (fun b H1 q => ?_) (hs σ H p)
  cases b with
  | true => exact ⟨_, fun σ' H' ⟨p', l⟩ => ⟨_, l, rfl, p'⟩, q⟩
  | false => exact q
end L2

namespace L2
open PySem PySem.Spec PyProof.Rows

abbrev R2 := V → V → Hp → VK → Prop
/-- a two-place operation on values: f is binaryOp op, inplaceOp op or compareOp op -/
def OpR (X : Cx) (f : Value → Value → Sem Value) (r : R2) : Prop :=
  ∀ (pins : List (Addr × Obj)) (s : Shared) (σ : St) (H : Hp) (x y : V) (v u : Value) (Q : VK), Inv X pins σ H s → RelV x v → RelV y u → r x y H Q →
    wpAny (model X.prog X.w) X.A (f v u) (EP X pins σ Q) X.xe s
/-- a one-place operation -/
def UnR (X : Cx) (f : Value → Sem Value) (r : V → Hp → VK → Prop) : Prop :=
  ∀ (pins : List (Addr × Obj)) (s : Shared) (σ : St) (H : Hp) (x : V) (v : Value) (Q : VK), Inv X pins σ H s → RelV x v → r x H Q →
    wpAny (model X.prog X.w) X.A (f v) (EP X pins σ Q) X.xe s
/-- a call of a value that is known (a builtin, a type) with values -/
def CallR (X : Cx) (f : Value) (r : List V → Hp → VK → Prop) : Prop :=
  ∀ (pins : List (Addr × Obj)) (s : Shared) (σ : St) (H : Hp) (xs : List V) (us : List Value) (Q : VK), Inv X pins σ H s → Vals xs us → r xs H Q →
    wpAny (model X.prog X.w) X.A (call f us) (EP X pins σ Q) X.xe s
/-- a value's truth -/
def TruR (X : Cx) (r : V → Hp → (Bool → Hp → Prop) → Prop) : Prop :=
  ∀ (pins : List (Addr × Obj)) (s : Shared) (σ : St) (H : Hp) (x : V) (v : Value) (Q : Bool → Hp → Prop), Inv X pins σ H s → RelV x v → r x H Q →
    wpAny (model X.prog X.w) X.A (truthy v) (TP X pins σ Q) X.xe s

def tOp (r : R2) (ta tb : TE) : TE := fun σ H Q => ta σ H fun x H1 => tb σ H1 fun y H2 => r x y H2 Q
def tUn (r : V → Hp → VK → Prop) (ta : TE) : TE := fun σ H Q => ta σ H fun x H1 => r x H1 Q
/-- ints in, under C, and a value out -/
def rI (C : Int → Int → Prop) (g : Int → Int → V) : R2 := fun x y H Q => ∃ i j, x = .int i ∧ y = .int j ∧ C i j ∧ Q (g i j) H
def rI0 (g : Int → Int → V) : R2 := fun x y H Q => ∃ i j, x = .int i ∧ y = .int j ∧ Q (g i j) H
def rU (g : Int → V) : V → Hp → VK → Prop := fun x H Q => ∃ i, x = .int i ∧ Q (g i) H

section
variable {X : Cx} {a b c : Expr} {ta tb tc : TE} {pos : Pos}

theorem binT (ha : PE X a ta) (hb : PE X b tb) {pins : List (Addr × Obj)} {s : Shared} {σ : St} {H : Hp} {R : V → V → Hp → Prop} (I : Inv X pins σ H s)
    (h : ta σ H fun x H1 => tb σ H1 fun y H2 => R x y H2) {Q : Value → Shared → Prop} {f : Value → Value → Sem Value}
    (hf : ∀ v u s2 x y H2, Inv X pins σ H2 s2 → RelV x v → RelV y u → R x y H2 → wpAny (model X.prog X.w) X.A (f v u) Q X.xe s2) :
    wpAny (model X.prog X.w) X.A (eval a X.env) (fun v s₁ => wpAny (model X.prog X.w) X.A (eval b X.env) (fun u s₂ => wpAny (model X.prog X.w) X.A (f v u) Q X.xe s₂) X.xe s₁) X.xe s := by
  refine thn (ha pins s σ H _ I h) fun v s1 ⟨x, H1, I1, r1, q1⟩ => ?_
  refine thn (hb pins s1 σ H1 _ I1 q1) fun u s2 ⟨y, H2, I2, r2, q2⟩ => ?_
  exact hf v u s2 x y H2 I2 r1 r2 q2

theorem pe_op {op : Operator} {r : R2} (ho : OpR X (binaryOp op) r) (ha : PE X a ta) (hb : PE X b tb) : PE X (.BinOp a op b pos) (tOp r ta tb) := by
  intro pins s σ H Q I h
  exact wpAny_BinOp (binT ha hb I h fun v u s2 x y H2 I2 rx ry q => ho pins s2 σ H2 x y v u Q I2 rx ry q)
theorem pe_un {op : UnaryOp} {r : V → Hp → VK → Prop} (ho : UnR X (unaryOp op) r) (ha : PE X a ta) : PE X (.UnaryOp op a pos) (tUn r ta) := by
  intro pins s σ H Q I h
  exact UnaryOp_ (thn (ha pins s σ H _ I h) fun v s1 ⟨x, H1, I1, r1, q1⟩ => ho pins s1 σ H1 x v Q I1 r1 q1)
/-- a op= e at a name: the name's slot i -/
theorem augR {op : Operator} {r : R2} (ho : OpR X (inplaceOp op) r) {pins : List (Addr × Obj)} {s : Shared} {σ : St} {H : Hp} {x y : V} {v u : Value} {Q : VK} (I : Inv X pins σ H s)
    (rx : RelV x v) (ry : RelV y u) (q : r x y H Q) : wpAny (model X.prog X.w) X.A (inplaceOp op v u) (EP X pins σ Q) X.xe s := ho pins s σ H x y v u Q I rx ry q

/-! ### ints -/
theorem opI {f : Value → Value → Sem Value} {C : Int → Int → Prop} {g : Int → Int → Int}
    (rule : ∀ (i j : Int) (t u : Tok) (s : Shared) (Q : Value → Shared → Prop) (E : Value → Shared → Prop), C i j → Q (.int (g i j) s.toks) { s with toks := s.toks + 1 } → wpAny (model X.prog X.w) X.A (f (.int i t) (.int j u)) Q E s) :
    OpR X f (rI C fun i j => .int (g i j)) := by
  intro pins s σ H x y v u Q I rx ry h
  obtain ⟨i, j, rfl, rfl, hc, q⟩ := h
  obtain ⟨t, rfl⟩ := rx
  obtain ⟨t', rfl⟩ := ry
  exact rule i j t t' s _ _ hc ⟨.int (g i j), H, I.tok _, ⟨_, rfl⟩, q⟩
theorem opI0 {f : Value → Value → Sem Value} {g : Int → Int → Int}
    (rule : ∀ (i j : Int) (t u : Tok) (s : Shared) (Q : Value → Shared → Prop) (E : Value → Shared → Prop), Q (.int (g i j) s.toks) { s with toks := s.toks + 1 } → wpAny (model X.prog X.w) X.A (f (.int i t) (.int j u)) Q E s) :
    OpR X f (rI0 fun i j => .int (g i j)) := by
  intro pins s σ H x y v u Q I rx ry h
  obtain ⟨i, j, rfl, rfl, q⟩ := h
  obtain ⟨t, rfl⟩ := rx
  obtain ⟨t', rfl⟩ := ry
  exact rule i j t t' s _ _ ⟨.int (g i j), H, I.tok _, ⟨_, rfl⟩, q⟩
theorem opB0 {f : Value → Value → Sem Value} {g : Int → Int → Bool}
    (rule : ∀ (i j : Int) (t u : Tok) (s : Shared) (Q : Value → Shared → Prop) (E : Value → Shared → Prop), Q (.bool (g i j)) s → wpAny (model X.prog X.w) X.A (f (.int i t) (.int j u)) Q E s) :
    OpR X f (rI0 fun i j => .bl (g i j)) := by
  intro pins s σ H x y v u Q I rx ry h
  obtain ⟨i, j, rfl, rfl, q⟩ := h
  obtain ⟨t, rfl⟩ := rx
  obtain ⟨t', rfl⟩ := ry
  exact rule i j t t' s _ _ ⟨.bl (g i j), H, I, rfl, q⟩

def CDiv (i j : Int) : Prop := 0 < j ∧ j < 1073741824
def CDivN (i j : Int) : Prop := j ≠ 0 ∧ j.natAbs < 1073741824
def CPow (i j : Int) : Prop := 0 ≤ j ∧ j ≤ 1000000 ∧ i.natAbs < 2 ^ 64
def CMul (i j : Int) : Prop := (-(2 ^ 64) < i ∧ i < 2 ^ 64) ∨ (-(2 ^ 64) < j ∧ j < 2 ^ 64)
theorem CMul.ok {i j : Int} (h : CMul i j) : IntMulOk i j := by
  rcases h with ⟨h1, h2⟩ | ⟨h1, h2⟩
  · exact .of_left (intBits_le_64 h1 h2)
  · exact .of_right (intBits_le_64 h1 h2)
theorem two_pow_nn (k : Nat) : (0 : Int) ≤ 2 ^ k := by
  rw [two_pow_cast]
  exact Int.natCast_nonneg _

theorem op_add : OpR X (binaryOp .Add) (rI0 fun i j => .int (i + j)) := opI0 fun _ _ _ _ _ _ _ q => add_int q
theorem op_sub : OpR X (binaryOp .Sub) (rI0 fun i j => .int (i - j)) := opI0 fun _ _ _ _ _ _ _ q => sub_int q
theorem op_mul : OpR X (binaryOp .Mult) (rI CMul fun i j => .int (i * j)) := opI fun _ _ _ _ _ _ _ hc q => mul_int q hc.ok
/-- // by a positive divisor -/
theorem op_fdiv : OpR X (binaryOp .FloorDiv) (rI CDiv fun i j => .int (i / j)) := opI fun i j _ _ _ _ _ hc q => by
  have h1 : (0 : Int) < j := hc.1
  have h2 : j < 1073741824 := hc.2
  exact floordiv_int (by omega) (by rw [Int.fdiv_eq_ediv_of_nonneg i (by omega)]; exact q) (.inl (PyProof.noPylong_small (by omega)))
theorem op_fdivN : OpR X (binaryOp .FloorDiv) (rI CDivN fun i j => .int (i.fdiv j)) := opI fun _ _ _ _ _ _ _ hc q => floordiv_int hc.1 q (.inl (PyProof.noPylong_small hc.2))
/-- % by a positive divisor of any size -/
theorem op_mod : OpR X (binaryOp .Mod) (rI (fun _ j => 0 < j) fun i j => .int (i % j)) := opI fun i j _ _ _ _ _ hc q => by
  have h1 : (0 : Int) < j := hc
  exact mod_int' (by omega) (by rw [Int.fmod_eq_emod_of_nonneg i (by omega)]; exact q)
theorem op_modN : OpR X (binaryOp .Mod) (rI (fun _ j => j ≠ 0) fun i j => .int (i.fmod j)) := opI fun _ _ _ _ _ _ _ hc q => mod_int' hc q
theorem op_pow : OpR X (binaryOp .Pow) (rI CPow fun i j => .int (i ^ j.toNat)) := opI fun _ _ _ _ _ _ _ hc q => pow_int_small hc.1 hc.2.1 hc.2.2 q
theorem op_shl : OpR X (binaryOp .LShift) (rI CPow fun i j => .int (i * 2 ^ j.toNat)) := opI fun _ _ _ _ _ _ _ hc q => lshift_int_small hc.1 hc.2.1 hc.2.2 q
theorem op_shr : OpR X (binaryOp .RShift) (rI (fun _ j => 0 ≤ j) fun i j => .int (i / 2 ^ j.toNat)) := opI fun i j _ _ _ _ _ hc q =>
  rshift_int hc (by rw [Int.fdiv_eq_ediv_of_nonneg i (two_pow_nn _)]; exact q)
theorem op_and : OpR X (binaryOp .BitAnd) (rI0 fun i j => .int (Builtin.bitAnd i j)) := opI0 fun _ _ _ _ _ _ _ q => and_int q
theorem op_or : OpR X (binaryOp .BitOr) (rI0 fun i j => .int (Builtin.bitOr i j)) := opI0 fun _ _ _ _ _ _ _ q => or_int q
theorem op_xor : OpR X (binaryOp .BitXor) (rI0 fun i j => .int (Builtin.bitXor i j)) := opI0 fun _ _ _ _ _ _ _ q => xor_int q

theorem iop_add : OpR X (inplaceOp .Add) (rI0 fun i j => .int (i + j)) := opI0 fun _ _ _ _ _ _ _ q => iadd_int q
theorem iop_sub : OpR X (inplaceOp .Sub) (rI0 fun i j => .int (i - j)) := opI0 fun _ _ _ _ _ _ _ q => isub_int q
theorem iop_mul : OpR X (inplaceOp .Mult) (rI CMul fun i j => .int (i * j)) := opI fun _ _ _ _ _ _ _ hc q => imul_int q hc.ok
theorem iop_fdiv : OpR X (inplaceOp .FloorDiv) (rI CDiv fun i j => .int (i / j)) := opI fun i j _ _ _ _ _ hc q => by
  have h1 : (0 : Int) < j := hc.1
  have h2 : j < 1073741824 := hc.2
  exact ifloordiv_int (by omega) (by rw [Int.fdiv_eq_ediv_of_nonneg i (by omega)]; exact q) (.inl (PyProof.noPylong_small (by omega)))
theorem iop_mod : OpR X (inplaceOp .Mod) (rI (fun _ j => 0 < j) fun i j => .int (i % j)) := opI fun i j _ _ _ _ _ hc q => by
  have h1 : (0 : Int) < j := hc
  exact imod_int (by omega) (by rw [Int.fmod_eq_emod_of_nonneg i (by omega)]; exact q)
theorem iop_shl : OpR X (inplaceOp .LShift) (rI CPow fun i j => .int (i * 2 ^ j.toNat)) := opI fun _ _ _ _ _ _ _ hc q => ilshift_int_small hc.1 hc.2.1 hc.2.2 q
theorem iop_shr : OpR X (inplaceOp .RShift) (rI (fun _ j => 0 ≤ j) fun i j => .int (i / 2 ^ j.toNat)) := opI fun i j _ _ _ _ _ hc q =>
  irshift_int hc (by rw [Int.fdiv_eq_ediv_of_nonneg i (two_pow_nn _)]; exact q)
theorem iop_and : OpR X (inplaceOp .BitAnd) (rI0 fun i j => .int (Builtin.bitAnd i j)) := opI0 fun _ _ _ _ _ _ _ q => iand_int q
theorem iop_or : OpR X (inplaceOp .BitOr) (rI0 fun i j => .int (Builtin.bitOr i j)) := opI0 fun _ _ _ _ _ _ _ q => ior_int q
theorem iop_xor : OpR X (inplaceOp .BitXor) (rI0 fun i j => .int (Builtin.bitXor i j)) := opI0 fun _ _ _ _ _ _ _ q => ixor_int q

theorem unI {f : Value → Sem Value} {g : Int → Int}
    (rule : ∀ (i : Int) (t : Tok) (s : Shared) (Q : Value → Shared → Prop) (E : Value → Shared → Prop), Q (.int (g i) s.toks) { s with toks := s.toks + 1 } → wpAny (model X.prog X.w) X.A (f (.int i t)) Q E s) :
    UnR X f (rU fun i => .int (g i)) := by
  intro pins s σ H x v Q I rx h
  obtain ⟨i, rfl, q⟩ := h
  obtain ⟨t, rfl⟩ := rx
  exact rule i t s _ _ ⟨.int (g i), H, I.tok _, ⟨_, rfl⟩, q⟩
theorem un_neg : UnR X (unaryOp .USub) (rU fun i => .int (-i)) := unI fun _ _ _ _ _ q => neg_int q
theorem un_inv : UnR X (unaryOp .Invert) (rU fun i => .int (Builtin.bitNot i)) := unI fun _ _ _ _ _ q => invert_int q

/-! ### bools among ints: n += (a < b) -/
theorem op_add_ib : OpR X (binaryOp .Add) (fun x y H Q => ∃ i k, x = .int i ∧ y = .bl k ∧ Q (.int (i + b2i k)) H) := by
  intro pins s σ H x y v u Q I rx ry h
  obtain ⟨i, k, rfl, rfl, q⟩ := h
  obtain ⟨t, rfl⟩ := rx
  cases ry
  exact add_int_bool ⟨.int (i + b2i k), H, I.tok _, ⟨_, rfl⟩, q⟩
end

/-! ### comparisons -/
/-- the scalars that == tells apart as data does -/
def scal : V → V → Bool
  | .non, .non => true | .non, .int _ => true | .int _, .non => true | .non, .bl _ => true | .bl _, .non => true | .non, .str _ => true | .str _, .non => true
  | .int _, .int _ => true | .bl _, .bl _ => true | .str _, .str _ => true | .byt _, .byt _ => true
  | .int _, .str _ => true | .str _, .int _ => true | .bl _, .str _ => true | .str _, .bl _ => true
  | _, _ => false
def rEq : R2 := fun x y H Q => scal x y = true ∧ Q (.bl (decide (x = y))) H
def rNe : R2 := fun x y H Q => scal x y = true ∧ Q (.bl (!decide (x = y))) H

theorem dec_int {i j : Int} : decide (V.int i = V.int j) = (i == j) := by
  rw [Bool.eq_iff_iff]
  simp
theorem dec_bl {i j : Bool} : decide (V.bl i = V.bl j) = (i == j) := by
  rw [Bool.eq_iff_iff]
  simp
theorem dec_str {i j : Str} : decide (V.str i = V.str j) = (i == j) := by
  rw [Bool.eq_iff_iff]
  simp
theorem dec_byt {i j : Array UInt8} : decide (V.byt i = V.byt j) = (i.toList == j.toList) := by
  rw [Bool.eq_iff_iff]
  cases i
  cases j
  simp

section
variable {X : Cx} {a b c : Expr} {ta tb tc : TE} {pos : Pos}
theorem fin_bl {pins : List (Addr × Obj)} {σ : St} {H : Hp} {s : Shared} {Q : VK} {k k' : Bool} (I : Inv X pins σ H s) (q : Q (.bl k) H) (e : k = k') : EP X pins σ Q (.bool k') s := by
  subst e
  exact ⟨.bl k, H, I, rfl, q⟩
theorem op_eq : OpR X (compareOp .Eq) rEq := by
  intro pins s σ H x y v u Q I rx ry h
  obtain ⟨hs, q⟩ := h
  cases x with
  | non =>
    cases rx
    cases y with
    | non => cases ry; exact PySem.EqNone.eq_none_none (fin_bl I q (by simp))
    | bl j => cases ry; exact PySem.EqNone.eq_none_bool (fin_bl I q (by simp))
    | int j => obtain ⟨t', rfl⟩ := ry; exact PySem.EqNone.eq_none_int (fin_bl I q (by simp))
    | str j => obtain ⟨t', rfl⟩ := ry; exact PySem.EqNone.eq_none_str (fin_bl I q (by simp))
    | _ => exact absurd (show false = true from hs) Bool.false_ne_true
  | bl i =>
    cases rx
    cases y with
    | non => cases ry; exact PySem.EqNone.eq_bool_none (fin_bl I q (by simp))
    | bl j => cases ry; exact eq_bool (fin_bl I q dec_bl)
    | str j => obtain ⟨t', rfl⟩ := ry; exact PySem.EqMixed.eq_bool_str (fin_bl I q (by simp))
    | _ => exact absurd (show false = true from hs) Bool.false_ne_true
  | int i =>
    obtain ⟨t, rfl⟩ := rx
    cases y with
    | non => cases ry; exact PySem.EqNone.eq_int_none (fin_bl I q (by simp))
    | int j => obtain ⟨t', rfl⟩ := ry; exact eq_int (fin_bl I q dec_int)
    | str j => obtain ⟨t', rfl⟩ := ry; exact PySem.EqMixed.eq_int_str (fin_bl I q (by simp))
    | _ => exact absurd (show false = true from hs) Bool.false_ne_true
  | str i =>
    obtain ⟨t, rfl⟩ := rx
    cases y with
    | non => cases ry; exact PySem.EqNone.eq_str_none (fin_bl I q (by simp))
    | bl j => cases ry; exact PySem.EqMixed.eq_str_bool (fin_bl I q (by simp))
    | int j => obtain ⟨t', rfl⟩ := ry; exact PySem.EqMixed.eq_str_int (fin_bl I q (by simp))
    | str j => obtain ⟨t', rfl⟩ := ry; exact eq_str (fin_bl I q dec_str)
    | _ => exact absurd (show false = true from hs) Bool.false_ne_true
  | byt i =>
    obtain ⟨t, rfl⟩ := rx
    cases y with
    | byt j => obtain ⟨t', rfl⟩ := ry; exact PySem.W.eq_bytes (fin_bl I q dec_byt)
    | _ => exact absurd (show false = true from hs) Bool.false_ne_true
  | _ => cases y <;> exact absurd (show false = true from hs) Bool.false_ne_true
theorem op_ne : OpR X (compareOp .NotEq) rNe := by
  intro pins s σ H x y v u Q I rx ry h
  obtain ⟨hs, q⟩ := h
  cases x with
  | non =>
    cases rx
    cases y with
    | non => cases ry; exact PySem.EqNone.ne_none_none (fin_bl I q (by simp))
    | bl j => cases ry; exact PySem.EqNone.ne_none_bool (fin_bl I q (by simp))
    | int j => obtain ⟨t', rfl⟩ := ry; exact PySem.EqNone.ne_none_int (fin_bl I q (by simp))
    | str j => obtain ⟨t', rfl⟩ := ry; exact PySem.EqNone.ne_none_str (fin_bl I q (by simp))
    | _ => exact absurd (show false = true from hs) Bool.false_ne_true
  | bl i =>
    cases rx
    cases y with
    | non => cases ry; exact PySem.EqNone.ne_bool_none (fin_bl I q (by simp))
    | bl j => cases ry; exact ne_bool (fin_bl I q (congrArg not dec_bl))
    | str j => obtain ⟨t', rfl⟩ := ry; exact PySem.EqMixed.ne_bool_str (fin_bl I q (by simp))
    | _ => exact absurd (show false = true from hs) Bool.false_ne_true
  | int i =>
    obtain ⟨t, rfl⟩ := rx
    cases y with
    | non => cases ry; exact PySem.EqNone.ne_int_none (fin_bl I q (by simp))
    | int j => obtain ⟨t', rfl⟩ := ry; exact ne_int (fin_bl I q (congrArg not dec_int))
    | str j => obtain ⟨t', rfl⟩ := ry; exact PySem.EqMixed.ne_int_str (fin_bl I q (by simp))
    | _ => exact absurd (show false = true from hs) Bool.false_ne_true
  | str i =>
    obtain ⟨t, rfl⟩ := rx
    cases y with
    | non => cases ry; exact PySem.EqNone.ne_str_none (fin_bl I q (by simp))
    | bl j => cases ry; exact PySem.EqMixed.ne_str_bool (fin_bl I q (by simp))
    | int j => obtain ⟨t', rfl⟩ := ry; exact PySem.EqMixed.ne_str_int (fin_bl I q (by simp))
    | str j => obtain ⟨t', rfl⟩ := ry; exact ne_str (fin_bl I q (congrArg not dec_str))
    | _ => exact absurd (show false = true from hs) Bool.false_ne_true
  | byt i =>
    obtain ⟨t, rfl⟩ := rx
    cases y with
    | byt j => obtain ⟨t', rfl⟩ := ry; exact PySem.W.ne_bytes (fin_bl I q (congrArg not dec_byt))
    | _ => exact absurd (show false = true from hs) Bool.false_ne_true
  | _ => cases y <;> exact absurd (show false = true from hs) Bool.false_ne_true

theorem op_lt : OpR X (compareOp .Lt) (rI0 fun i j => .bl (decide (i < j))) := opB0 fun _ _ _ _ _ _ _ q => lt_int q
theorem op_le : OpR X (compareOp .LtE) (rI0 fun i j => .bl (decide (i ≤ j))) := opB0 fun _ _ _ _ _ _ _ q => le_int q
theorem op_gt : OpR X (compareOp .Gt) (rI0 fun i j => .bl (decide (j < i))) := opB0 fun _ _ _ _ _ _ _ q => gt_int q
theorem op_ge : OpR X (compareOp .GtE) (rI0 fun i j => .bl (decide (j ≤ i))) := opB0 fun _ _ _ _ _ _ _ q => ge_int q
theorem op_lt_str : OpR X (compareOp .Lt) (fun x y H Q => ∃ i j, x = .str i ∧ y = .str j ∧ Q (.bl (decide (i.cps.toList < j.cps.toList))) H) := by
  intro pins s σ H x y v u Q I rx ry h
  obtain ⟨i, j, rfl, rfl, q⟩ := h
  obtain ⟨t, rfl⟩ := rx
  obtain ⟨t', rfl⟩ := ry
  exact lt_str (fin_bl I q rfl)
/-- the one string within the other -/
theorem op_in_str : OpR X (compareOp .In) (fun x y H Q => ∃ i j, x = .str i ∧ y = .str j ∧ Q (.bl (!(Builtin.Str.occurrences j i 0 j.length 1).isEmpty)) H) := by
  intro pins s σ H x y v u Q I rx ry h
  obtain ⟨i, j, rfl, rfl, q⟩ := h
  obtain ⟨t, rfl⟩ := rx
  obtain ⟨t', rfl⟩ := ry
  exact in_str (fin_bl I q rfl)

/-- is None, is not None: the right side a value none -/
theorem op_isN : OpR X (compareOp .Is) (fun x y H Q => y = .non ∧ Q (.bl (decide (x = .non))) H) := by
  intro pins s σ H x y v u Q I rx ry h
  obtain ⟨rfl, q⟩ := h
  cases ry
  refine is_none_gen (fin_bl I q ?_)
  cases x <;> first
    | (cases rx; rfl)
    | (obtain ⟨t, rfl⟩ := rx; rfl)
theorem op_notN : OpR X (compareOp .IsNot) (fun x y H Q => y = .non ∧ Q (.bl (!decide (x = .non))) H) := by
  intro pins s σ H x y v u Q I rx ry h
  obtain ⟨rfl, q⟩ := h
  cases ry
  refine isnot_none_gen (fin_bl I q ?_)
  cases x <;> first
    | (cases rx; rfl)
    | (obtain ⟨t, rfl⟩ := rx; rfl)

theorem op_notin_str : OpR X (compareOp .NotIn) (fun x y H Q => ∃ i j, x = .str i ∧ y = .str j ∧ Q (.bl (!(!(Builtin.Str.occurrences j i 0 j.length 1).isEmpty))) H) := by
  intro pins s σ H x y v u Q I rx ry h
  obtain ⟨i, j, rfl, rfl, q⟩ := h
  obtain ⟨t, rfl⟩ := rx
  obtain ⟨t', rfl⟩ := ry
  exact notIn_str (fin_bl I q rfl)
/-- is, is not of two objects that are tracked lists or instances -/
def isObj : HO → Bool
  | .lst _ => true
  | .ins _ _ _ => true
  | _ => false
theorem obj_there {pins : List (Addr × Obj)} {s : Shared} {σ : St} {H : Hp} {a : Addr} {o : HO} (I : Inv X pins σ H s) (h : H a = some o) (p : isObj o = true) : ∃ ob, s.heap.get? a = some ob ∧ ob.cls ≠ .type "tuple" := by
  cases o with
  | lst xs =>
    obtain ⟨_, its, n, _, e⟩ : xs.length ≤ sizeLine ∧ ∃ (its : List Value) (n : Nat), Vals xs its ∧ s.heap.get? a = some { cls := .type "list", data := .seq its.toArray n } := I.hok a _ h
    exact ⟨_, e, (by show Value.type "list" ≠ .type "tuple"; decide +kernel)⟩
  | ins C dx fs =>
    have x := I.hok a _ h
    obtain ⟨_, _, _, e, _⟩ := x
    exact ⟨_, e, (by show Value.ref C ≠ .type "tuple"; exact fun z => by cases z)⟩
  | _ => exact absurd (show false = true from p) Bool.false_ne_true
theorem op_is_ref : OpR X (compareOp .Is) (fun x y H Q => ∃ a b oa ob, x = .ref a ∧ y = .ref b ∧ H a = some oa ∧ isObj oa = true ∧ H b = some ob ∧ isObj ob = true ∧ Q (.bl (decide (a = b))) H) := by
  intro pins s σ H x y v u Q I rx ry h
  obtain ⟨a, b, oa, ob, rfl, rfl, ha, pa, hb, pb, q⟩ := h
  cases rx
  cases ry
  obtain ⟨o1, e1, n1⟩ := obj_there I ha pa
  obtain ⟨o2, e2, _⟩ := obj_there I hb pb
  by_cases z : a = b
  · subst z
    exact wpAny_is_ref_self (fin_bl I q (by simp))
  · exact wpAny_is_ref_other z e1 e2 n1 (fin_bl I q (by simp [z]))
theorem op_isnot_ref : OpR X (compareOp .IsNot) (fun x y H Q => ∃ a b oa ob, x = .ref a ∧ y = .ref b ∧ H a = some oa ∧ isObj oa = true ∧ H b = some ob ∧ isObj ob = true ∧ Q (.bl (!decide (a = b))) H) := by
  intro pins s σ H x y v u Q I rx ry h
  obtain ⟨a, b, oa, ob, rfl, rfl, ha, pa, hb, pb, q⟩ := h
  cases rx
  cases ry
  obtain ⟨o1, e1, n1⟩ := obj_there I ha pa
  obtain ⟨o2, e2, _⟩ := obj_there I hb pb
  by_cases z : a = b
  · subst z
    exact wpAny_isNot_ref_self (fin_bl I q (by simp))
  · exact wpAny_isNot_ref_other z e1 e2 n1 (fin_bl I q (by simp [z]))

/-- two rules for one operation: by cases -/
theorem OpR.or {f : Value → Value → Sem Value} {r r' : R2} (h : OpR X f r) (h' : OpR X f r') : OpR X f (fun x y H Q => r x y H Q ∨ r' x y H Q) := by
  intro pins s σ H x y v u Q I rx ry q
  rcases q with q | q
  · exact h pins s σ H x y v u Q I rx ry q
  · exact h' pins s σ H x y v u Q I rx ry q

theorem nomark (b : Expr) {op : CmpOp} (h : op ≠ .In := by decide) (h2 : op ≠ .NotIn := by decide) : behindInMarks op b = false := by
  have e1 : (op == CmpOp.In) = false := by cases op <;> first | rfl | exact absurd rfl h
  have e2 : (op == CmpOp.NotIn) = false := by cases op <;> first | rfl | exact absurd rfl h2
  cases b <;> simp [behindInMarks, e1, e2]
/-- a comparison as a value; hm: nomark b, or (for in, not in) by with_unfolding_all rfl -/
theorem pe_cmpR {op : CmpOp} {r : R2} (ho : OpR X (compareOp op) r) (ha : PE X a ta) (hb : PE X b tb) (hm : behindInMarks op b = false) : PE X (.Compare a [op] [b] pos) (tOp r ta tb) := by
  intro pins s σ H Q I h
  exact wpAny_Compare1 (binT ha hb I h fun v u s2 x y H2 I2 rx ry q => ho pins s2 σ H2 x y v u Q I2 rx ry q) hm
/-- a reading of a value as a test -/
def tTest (t : TE) : TT := fun σ H Q => t σ H fun x H' => ∃ k, x = .bl k ∧ Q k H'
theorem pt_cmpR {op : CmpOp} {r : R2} (ho : OpR X (compareOp op) r) (ha : PE X a ta) (hb : PE X b tb) (hm : behindInMarks op b = false) : PT X (.Compare a [op] [b] pos) (tTest (tOp r ta tb)) := by
  intro pins s σ H Q I h
  refine wpAny_isTrue_Compare1 (thn (ha pins s σ H _ I h) fun v s1 ⟨x, H1, I1, r1, q1⟩ => thn (hb pins s1 σ H1 _ I1 q1) fun u s2 ⟨y, H2, I2, r2, q2⟩ =>
    thn (ho pins s2 σ H2 x y v u _ I2 r1 r2 q2) fun c s3 ⟨z, H3, I3, r3, k, e, q3⟩ => ?_) hm
  subst e
  cases r3
  exact wpAny_truthy_bool ⟨H3, I3, q3⟩
/-- a op1 b op2 c -/
def tChain (r r' : R2) (ta tb tc : TE) : TE := fun σ H Q => ta σ H fun x H1 => tb σ H1 fun y H2 => r x y H2 fun z H3 => ∃ k, z = .bl k ∧
  (if k = true then tc σ H3 fun w' H4 => r' y w' H4 Q else Q (.bl false) H3)
theorem pe_chain {op op' : CmpOp} {r r' : R2} (ho : OpR X (compareOp op) r) (ho' : OpR X (compareOp op') r') (ha : PE X a ta) (hb : PE X b tb) (hc : PE X c tc)
    (hm : lastMarks [op, op'] [b, c] = false := by with_unfolding_all rfl) : PE X (.Compare a [op, op'] [b, c] pos) (tChain r r' ta tb tc) := by
  intro pins s σ H Q I h
  refine Compare_chain (thn (ha pins s σ H _ I h) fun v s1 ⟨x, H1, I1, r1, q1⟩ => chain_link (thn (hb pins s1 σ H1 _ I1 q1) fun u s2 ⟨y, H2, I2, r2, q2⟩ =>
    thn (ho pins s2 σ H2 x y v u _ I2 r1 r2 q2) fun d s3 ⟨z, H3, I3, r3, k, e, q3⟩ => ?_)) hm
  subst e
  cases r3
  refine wpAny_truthy_bool ?_
  cases k with
  | false => exact ite_ff ⟨.bl false, H3, I3, rfl, q3⟩
  | true => exact ite_tt (chain_last (thn (hc pins s3 σ H3 _ I3 q3) fun w' s4 ⟨z', H4, I4, r4, q4⟩ => ho' pins s4 σ H4 y z' u w' Q I4 r2 r4 q4))
theorem pt_chain {op op' : CmpOp} {r r' : R2} (ho : OpR X (compareOp op) r) (ho' : OpR X (compareOp op') r') (ha : PE X a ta) (hb : PE X b tb) (hc : PE X c tc)
    (hm : lastMarks [op, op'] [b, c] = false := by with_unfolding_all rfl) : PT X (.Compare a [op, op'] [b, c] pos) (tTest (tChain r r' ta tb tc)) := by
  intro pins s σ H Q I h
  refine isTrue_chain (thn (ha pins s σ H _ I h) fun v s1 ⟨x, H1, I1, r1, q1⟩ => test_link (thn (hb pins s1 σ H1 _ I1 q1) fun u s2 ⟨y, H2, I2, r2, q2⟩ =>
    thn (ho pins s2 σ H2 x y v u _ I2 r1 r2 q2) fun d s3 ⟨z, H3, I3, r3, k, e, q3⟩ => ?_)) hm
  subst e
  cases r3
  refine wpAny_truthy_bool ?_
  cases k with
  | false =>
    obtain ⟨k', e', q'⟩ := q3
    cases e'
    exact ite_ff ⟨H3, I3, q'⟩
  | true =>
    refine ite_tt (test_last (thn (hc pins s3 σ H3 _ I3 q3) fun w' s4 ⟨z', H4, I4, r4, q4⟩ => thn (ho' pins s4 σ H4 y z' u w' _ I4 r2 r4 q4) fun d' s5 ⟨z2, H5, I5, r5, k2, e2, q5⟩ => ?_))
    subst e2
    cases r5
    exact wpAny_truthy_bool ⟨H5, I5, q5⟩

/-! ### truth -/
/-- a value's truth by the abstract heap -/
def TruV (K : PySem.W.Frag) (x : V) (H : Hp) (k : Bool) : Prop :=
  match x with
  | .non => k = false
  | .bl b => k = b
  | .int i => k = (i != 0)
  | .str y => y.length ≤ sizeLine ∧ k = ((y.length : Int) != 0)
  | .byt y => y.size ≤ sizeLine ∧ k = ((y.size : Int) != 0)
  | .ref p => (∃ xs, SqL K H p xs ∧ k = !xs.isEmpty) ∨ (∃ xs, SqT K H p xs ∧ k = !xs.isEmpty) ∨ ∃ kvs, H p = some (.dK kvs) ∧ k = !kvs.isEmpty
  | _ => False
theorem isEmpty_kv {κ : Type} {kvs : List (κ × V)} {vs : List (κ × Value)} (r : KV kvs vs) : (!vs.isEmpty) = !kvs.isEmpty := by
  cases r <;> rfl
theorem isEmpty_of {xs : List V} {its : List Value} (r : Vals xs its) : (!its.toArray.isEmpty) = !xs.isEmpty := by
  cases r <;> simp
theorem line63 : (sizeLine : Nat) < 2 ^ 63 := by rw [sizeLine_eq]; decide
theorem tru_ok : TruR X (fun x H Q => ∃ k, TruV X.K x H k ∧ Q k H) := by
  intro pins s σ H x v Q I rx h
  obtain ⟨k, e, q⟩ := h
  have hl := line63
  have hs : sizeLine = 16777216 := sizeLine_eq
  cases x with
  | non =>
    cases rx
    have e' : k = false := e
    subst e'
    exact truthy_none ⟨H, I, q⟩
  | bl b =>
    cases rx
    have e' : k = b := e
    subst e'
    exact wpAny_truthy_bool ⟨H, I, q⟩
  | int i =>
    obtain ⟨t, rfl⟩ := rx
    have e' : k = (i != 0) := e
    subst e'
    exact PySem.P.truthy_int ⟨H, I, q⟩
  | str y =>
    obtain ⟨t, rfl⟩ := rx
    obtain ⟨hy, e'⟩ : y.length ≤ sizeLine ∧ k = ((y.length : Int) != 0) := e
    subst e'
    exact PySem.P.truthy_str (by omega) ⟨H, I.tok _, q⟩
  | byt y =>
    obtain ⟨t, rfl⟩ := rx
    obtain ⟨hy, e'⟩ : y.size ≤ sizeLine ∧ k = ((y.size : Int) != 0) := e
    subst e'
    exact PySem.W.truthy_bytes (by omega) ⟨H, I.tok _, q⟩
  | ref p =>
    cases rx
    have e' : (∃ xs, SqL X.K H p xs ∧ k = !xs.isEmpty) ∨ (∃ xs, SqT X.K H p xs ∧ k = !xs.isEmpty) ∨ ∃ kvs, H p = some (.dK kvs) ∧ k = !kvs.isEmpty := e
    rcases e' with ⟨xs, hx, e'⟩ | ⟨xs, hx, e'⟩ | ⟨kvs, hx, e'⟩
    · subst e'
      obtain ⟨its, r, pl, hz⟩ := I.list hx
      have hlen := r.length
      exact wpAny_truthy_list pl.isList (by simp only [List.size_toArray]; omega) ⟨H, I.tok _, by rw [isEmpty_of r]; exact q⟩
    · subst e'
      obtain ⟨its, r, pl, hz⟩ := I.tuple hx
      have hlen := r.length
      exact truthy_tuple pl (by simp only [List.size_toArray]; omega) ⟨H, I.tok _, by rw [isEmpty_of r]; exact q⟩
    · subst e'
      obtain ⟨hz, hS, vs, r, m⟩ : kvs.length ≤ sizeLine ∧ (p == sysModules) = false ∧ ∃ vs, KV kvs vs ∧ s.heap.DictOf (mixKind X.prog X.w) p vs := I.hok p _ hx
      have hlen : kvs.length = vs.length := Paired.length r
      exact wpAny_truthy_dict hS m (by omega) ⟨H, I.tok _, by rw [isEmpty_kv r]; exact q⟩
  | _ => exact (show False from e).elim
/-- any expression whose test is its value's truth (a name, a call, a subscript, a field ..: he by fun _ => rfl) -/
theorem pt_truth (ha : PE X a ta) (he : ∀ whole, isTrue a X.env whole = (do let v ← whole; standAt a.pos; holding [v] (truthy v))) :
    PT X a (fun σ H Q => ta σ H fun x H' => ∃ k, TruV X.K x H' k ∧ Q k H') := by
  intro pins s σ H Q I h
  exact isTrue_plain (thn (ha pins s σ H _ I h) fun v s1 ⟨x, H1, I1, r1, q1⟩ => tru_ok pins s1 σ H1 x v Q I1 r1 q1) (he _)

/-! ### strs and bytes -/
theorem pe_byt {x : List UInt8} {k : Nat} : PE X (.Constant (.bytes x) k pos) (fun _ H Q => Q (.byt x.toArray) H) := fun _ _ _ H _ I h => PySem.W.Constant_bytes ⟨.byt x.toArray, H, I.tok _, ⟨_, rfl⟩, h⟩
theorem op_add_str : OpR X (binaryOp .Add) (fun x y H Q => ∃ i j, x = .str i ∧ y = .str j ∧ i.length + j.length ≤ sizeLine ∧ Q (.str (i ++ j)) H) := by
  intro pins s σ H x y v u Q I rx ry h
  obtain ⟨i, j, rfl, rfl, hz, q⟩ := h
  obtain ⟨t, rfl⟩ := rx
  obtain ⟨t', rfl⟩ := ry
  exact add_str (fun t' tk => ⟨.str (i ++ j), H, I.tok _, ⟨_, rfl⟩, q⟩) hz
theorem iop_add_str : OpR X (inplaceOp .Add) (fun x y H Q => ∃ i j, x = .str i ∧ y = .str j ∧ i.length + j.length ≤ sizeLine ∧ Q (.str (i ++ j)) H) := by
  intro pins s σ H x y v u Q I rx ry h
  obtain ⟨i, j, rfl, rfl, hz, q⟩ := h
  obtain ⟨t, rfl⟩ := rx
  obtain ⟨t', rfl⟩ := ry
  exact iadd_str (fun t' tk => ⟨.str (i ++ j), H, I.tok _, ⟨_, rfl⟩, q⟩) hz
theorem op_add_byt : OpR X (binaryOp .Add) (fun x y H Q => ∃ i j, x = .byt i ∧ y = .byt j ∧ i.size + j.size ≤ 16777216 ∧ Q (.byt (i ++ j)) H) := by
  intro pins s σ H x y v u Q I rx ry h
  obtain ⟨i, j, rfl, rfl, hz, q⟩ := h
  obtain ⟨t, rfl⟩ := rx
  obtain ⟨t', rfl⟩ := ry
  exact PySem.W.KBy.add_bytes hz (fun t' tk => ⟨.byt (i ++ j), H, I.tok _, ⟨_, rfl⟩, q⟩)

def PlainIxT (b : Expr) : Prop := ∀ o i, subscripted b false o i = operate [o, i] (getItem o i)
/-- s[i], 0 ≤ i < len -/
theorem pe_item_str (ha : PE X a ta) (hb : PE X b tb) (hs : PlainIxT b) :
    PE X (.Subscript a b pos) (tOp (fun x y H Q => ∃ z i c, x = .str z ∧ y = .int i ∧ 0 ≤ i ∧ i < 2 ^ 63 ∧ i < z.length ∧ z.cps[i.toNat]? = some c ∧ Q (.str ⟨#[c]⟩) H) ta tb) := by
  intro pins s σ H Q I h
  refine Subscript_ (binT ha hb I h fun v u s2 x y H2 I2 rx ry q => ?_)
  obtain ⟨z, i, c, rfl, rfl, h0, h63, h1, hc, q⟩ := q
  obtain ⟨t, rfl⟩ := rx
  obtain ⟨t', rfl⟩ := ry
  have e : seqIndex? i z.length = some i.toNat := PySem.StrLaws.seqIndex_nonneg h0 h1
  exact tail_any (typeIs_str s2 z t) slot_str_getitem.lookup (getItem_str (c := c) (by
    have e1 : decide (i < -(2 ^ 63 : Int)) = false := decide_eq_false (by omega)
    have e2 : decide (i ≥ 2 ^ 63) = false := decide_eq_false (by omega)
    rw [e1, e2] <;> rfl) (by rw [e]; exact hc) ⟨.str ⟨#[c]⟩, H2, I2.tok _, ⟨_, rfl⟩, q⟩) (hs _ _)
/-- b[i], 0 ≤ i < len -/
theorem pe_item_byt (ha : PE X a ta) (hb : PE X b tb) (hs : PlainIxT b) :
    PE X (.Subscript a b pos) (tOp (fun x y H Q => ∃ (z : List UInt8) (i : Int), x = .byt z.toArray ∧ y = .int i ∧ z.length ≤ sizeLine ∧ 0 ≤ i ∧ i < z.length ∧ Q (.int ((z.getD i.toNat 0).toNat : Nat)) H) ta tb) := by
  intro pins s σ H Q I h
  refine Subscript_ (binT ha hb I h fun v u s2 x y H2 I2 rx ry q => ?_)
  obtain ⟨z, i, rfl, rfl, hz, h0, h1, q⟩ := q
  obtain ⟨t, rfl⟩ := rx
  obtain ⟨t', rfl⟩ := ry
  have hl : sizeLine = 16777216 := sizeLine_eq
  exact tail_any (PySem.W.typeIs_bytes s2 z.toArray t) PySem.W.FB.slot_bytes_getitem.lookup (PySem.W.getItem_bytes (by omega) h0 h1 ⟨.int ((z.getD i.toNat 0).toNat : Nat), H2, I2.tok _, ⟨_, rfl⟩, q⟩) (hs _ _)

/-! ### scalar builtins, by CallR -/
theorem vals1 {x : V} {us : List Value} (r : Vals [x] us) : ∃ u, us = [u] ∧ RelV x u := by
  cases r with
  | cons r1 r2 => cases r2; exact ⟨_, rfl, r1⟩
theorem vals2 {x y : V} {us : List Value} (r : Vals [x, y] us) : ∃ u w', us = [u, w'] ∧ RelV x u ∧ RelV y w' := by
  cases r with
  | cons r1 r2 =>
    cases r2 with
    | cons r3 r4 => cases r4; exact ⟨_, _, rfl, r1, r3⟩
theorem call_abs : CallR X (.builtin "abs") (fun xs H Q => ∃ i, xs = [.int i] ∧ Q (.int (if i < 0 then -i else i)) H) := by
  intro pins s σ H xs us Q I r h
  obtain ⟨i, rfl, q⟩ := h
  obtain ⟨u, rfl, t, rfl⟩ := vals1 r
  exact call_abs_int fun u tk => ⟨.int (if i < 0 then -i else i), H, I.tok _, ⟨_, rfl⟩, q⟩
theorem call_max2 (hc : X.calm = true) : CallR X (.builtin "max") (fun xs H Q => ∃ i j, xs = [.int i, .int j] ∧ Q (.int (if j > i then j else i)) H) := by
  intro pins s σ H xs us Q I r h
  obtain ⟨i, j, rfl, q⟩ := h
  obtain ⟨u, w', rfl, ⟨t, rfl⟩, ⟨t', rfl⟩⟩ := vals2 r
  refine max_two_ints (I.ok.hd hc) fun h' tk k => ⟨_, H, I.kept k, ?_, q⟩
  by_cases hj : j > i
  · rw [if_pos hj, if_pos hj]; exact ⟨_, rfl⟩
  · rw [if_neg hj, if_neg hj]; exact ⟨_, rfl⟩
theorem call_min2 (hc : X.calm = true) : CallR X (.builtin "min") (fun xs H Q => ∃ i j, xs = [.int i, .int j] ∧ Q (.int (if j < i then j else i)) H) := by
  intro pins s σ H xs us Q I r h
  obtain ⟨i, j, rfl, q⟩ := h
  obtain ⟨u, w', rfl, ⟨t, rfl⟩, ⟨t', rfl⟩⟩ := vals2 r
  refine min_two_ints (I.ok.hd hc) fun h' tk k => ⟨_, H, I.kept k, ?_, q⟩
  by_cases hj : j < i
  · rw [if_pos hj, if_pos hj]; exact ⟨_, rfl⟩
  · rw [if_neg hj, if_neg hj]; exact ⟨_, rfl⟩
theorem call_int1 : CallR X (.type "int") (fun xs H Q => (∃ i, xs = [.int i] ∧ Q (.int i) H) ∨ ∃ k, xs = [.bl k] ∧ Q (.int (if k then 1 else 0)) H) := by
  intro pins s σ H xs us Q I r h
  rcases h with ⟨i, rfl, q⟩ | ⟨k, rfl, q⟩
  · obtain ⟨u, rfl, t, rfl⟩ := vals1 r
    exact call_int_int ⟨.int i, H, I, ⟨_, rfl⟩, q⟩
  · obtain ⟨u, rfl, r1⟩ := vals1 r
    cases r1
    exact call_int_bool ⟨.int (if k then 1 else 0), H, I.tok _, ⟨_, rfl⟩, q⟩
theorem call_bool1 : CallR X (.type "bool") (fun xs H Q => (∃ i, xs = [.int i] ∧ Q (.bl (i != 0)) H) ∨ ∃ k, xs = [.bl k] ∧ Q (.bl k) H) := by
  intro pins s σ H xs us Q I r h
  rcases h with ⟨i, rfl, q⟩ | ⟨k, rfl, q⟩
  · obtain ⟨u, rfl, t, rfl⟩ := vals1 r
    exact call_bool_int ⟨.bl (i != 0), H, I, rfl, q⟩
  · obtain ⟨u, rfl, r1⟩ := vals1 r
    cases r1
    exact call_bool_bool ⟨.bl k, H, I, rfl, q⟩
theorem call_str_int : CallR X (.type "str") (fun xs H Q => ∃ i, xs = [.int i] ∧ i.natAbs.log2 < 1920 ∧ Q (.str (toString i)) H) := by
  intro pins s σ H xs us Q I r h
  obtain ⟨i, rfl, hz, q⟩ := h
  obtain ⟨u, rfl, t, rfl⟩ := vals1 r
  exact PySem.P.str_of_int hz ⟨.str _, H, I.tok _, ⟨_, rfl⟩, q⟩
theorem call_ord : CallR X (.builtin "ord") (fun xs H Q => ∃ x, xs = [.str x] ∧ x.length = 1 ∧ Q (.int (x.cps.getD 0 0 : Nat)) H) := by
  intro pins s σ H xs us Q I r h
  obtain ⟨x, rfl, hz, q⟩ := h
  obtain ⟨u, rfl, t, rfl⟩ := vals1 r
  exact ord_of_one hz ⟨.int _, H, I.tok _, ⟨_, rfl⟩, q⟩
theorem call_chr : CallR X (.builtin "chr") (fun xs H Q => ∃ i, xs = [.int i] ∧ 0 ≤ i ∧ i ≤ 1114111 ∧ Q (.str ⟨#[i.toNat]⟩) H) := by
  intro pins s σ H xs us Q I r h
  obtain ⟨i, rfl, h0, h1, q⟩ := h
  obtain ⟨u, rfl, t, rfl⟩ := vals1 r
  exact chr_of_range h0 h1 ⟨.str _, H, I.tok _, ⟨_, rfl⟩, q⟩
/-- len of a str, a bytes, a list, a tuple -/
def LenV (K : PySem.W.Frag) (x : V) (H : Hp) (n : Nat) : Prop :=
  match x with
  | .str y => y.length ≤ sizeLine ∧ n = y.length
  | .byt y => y.size ≤ sizeLine ∧ n = y.size
  | .ref p => (∃ xs, SqL K H p xs ∧ n = xs.length) ∨ ∃ xs, SqT K H p xs ∧ n = xs.length
  | _ => False
theorem call_len : CallR X (.builtin "len") (fun xs H Q => ∃ x n, xs = [x] ∧ LenV X.K x H n ∧ Q (.int n) H) := by
  intro pins s σ H xs us Q I r h
  obtain ⟨x, n, rfl, e, q⟩ := h
  obtain ⟨u, rfl, rx⟩ := vals1 r
  have hl := line63
  have hs : sizeLine = 16777216 := sizeLine_eq
  cases x with
  | str y =>
    obtain ⟨t, rfl⟩ := rx
    obtain ⟨hy, e'⟩ : y.length ≤ sizeLine ∧ n = y.length := e
    subst e'
    exact len_str (by omega) ⟨.int _, H, I.tok _, ⟨_, rfl⟩, q⟩
  | byt y =>
    obtain ⟨t, rfl⟩ := rx
    obtain ⟨hy, e'⟩ : y.size ≤ sizeLine ∧ n = y.size := e
    subst e'
    exact PySem.W.len_bytes (by omega) ⟨.int _, H, I.tok _, ⟨_, rfl⟩, q⟩
  | ref p =>
    cases rx
    have e' : (∃ xs, SqL X.K H p xs ∧ n = xs.length) ∨ ∃ xs, SqT X.K H p xs ∧ n = xs.length := e
    rcases e' with ⟨xs, hx, e'⟩ | ⟨xs, hx, e'⟩
    · subst e'
      obtain ⟨its, r', pl, hz⟩ := I.list hx
      have hlen := r'.length
      exact Calls.call_len_list pl.isList (by simp only [List.size_toArray]; omega) ⟨.int xs.length, H, I.tok _, ⟨_, by simp only [List.size_toArray]; rw [hlen]⟩, q⟩
    · subst e'
      obtain ⟨its, r', pl, hz⟩ := I.tuple hx
      have hlen := r'.length
      exact len_tuple pl (by simp only [List.size_toArray]; omega) ⟨.int xs.length, H, I.tok _, ⟨_, by simp only [List.size_toArray]; rw [hlen]⟩, q⟩
  | _ => exact (show False from e).elim
/-- divmod: a new tuple -/
theorem call_divmod : CallR X (.builtin "divmod") (fun xs H Q => ∃ i j, xs = [.int i, .int j] ∧ CDiv i j ∧ ∀ p, H p = none → Q (.ref p) (upd H p (.tup [.int (i / j), .int (i % j)]))) := by
  intro pins s σ H xs us Q I r h
  obtain ⟨i, j, rfl, ⟨h1, h2⟩, q⟩ := h
  obtain ⟨u, w', rfl, ⟨t, rfl⟩, ⟨t', rfl⟩⟩ := vals2 r
  refine divmod_int (by omega) ?_ (.inl (PyProof.noPylong_small (by omega)))
  rw [Int.fdiv_eq_ediv_of_nonneg i (by omega), Int.fmod_eq_emod_of_nonneg i (by omega)]
  have hn : H s.heap.objs.size = none := I.hok.fresh (Nat.le_refl _)
  refine ⟨.ref s.heap.objs.size, _, ?_, rfl, q _ hn⟩
  refine I.laid (fun b o e => Heap.get?_push_of_some _ e) (Nat.le_refl _) ⟨by simp only [List.length_cons, List.length_nil]; rw [sizeLine_eq]; decide, [.int (i / j) s.toks, .int (i % j) (s.toks + 1)], .cons ⟨_, rfl⟩ (.cons ⟨_, rfl⟩ .nil), ?_⟩
  exact ⟨_, Heap.get?_push_size s.heap rfl, rfl, 0, rfl⟩
end
end L2

namespace L2
open PySem PySem.Spec PyProof.Rows

/-! ### an instance, its attributes a map -/
structure ObjM (h : Heap) (x dx C : Addr) (mA : Str → Option Value) : Prop where
  obj : h.get? x = some (PySem.W.instObj C dx)
  ns : h.Ns1 dx mA
  ne : dx ≠ x

theorem lookIn_ns {h : Heap} {dx : Addr} {mA : Str → Option Value} (n : h.Ns1 dx mA) : ∃ od, h.get? dx = some od ∧ ∀ name, PySem.W.lookIn name od = some (mA name) := by
  obtain ⟨o, es, ep, ho, hd, hk, _, hm⟩ := n
  refine ⟨o, ho, fun name => ?_⟩
  have e := hm name
  unfold nsFind findBy at e
  rw [← Array.find?_toList] at e
  unfold PySem.W.lookIn
  rw [hd]
  dsimp only
  split
  · rename_i y q
    rw [q] at e
    exact congrArg some e
  · rename_i q
    rw [q] at e
    have a : es.toList.any (·.refKey) = false := by
      rw [List.any_eq_false]
      intro y hy
      obtain ⟨z, t, hkey⟩ := hk y (Array.mem_toList_iff.mp hy)
      simp [DictEntry.refKey, hkey]
    have a' : ¬ es.toList.any (·.refKey) = true := by rw [a]; exact Bool.false_ne_true
    rw [if_neg a']
    exact congrArg some e

theorem ObjM.look {h : Heap} {x dx C : Addr} {mA : Str → Option Value} (I : ObjM h x dx C mA) : ∃ od, PySem.W.InstAt h x (PySem.W.instObj C dx) C (some od) ∧ ∀ name, PySem.W.lookIn name od = some (mA name) :=
  let ⟨od, ho, hl⟩ := lookIn_ns I.ns
  ⟨od, ⟨I.obj, rfl, rfl, ho⟩, hl⟩

section
variable {prog : Program} {w : World} {A : Around} {E : Value → Shared → Prop} {s : Shared} {K : PySem.W.Frag} {x dx C f : Addr} {mA : Str → Option Value} {name : Str} {v : Value}

theorem get_map {expr : Bool} {Q : Value → Shared → Prop} (X : K.In s.heap) (I : ObjM s.heap x dx C mA) (hg : PySem.W.plainGet K C name = true) (hh : PySem.W.hasDictIn K C = true)
    (ha : PySem.W.findIn K (.ref C) name = some none) (hv : mA name = some v) (hv' : PySem.W.handedIn v = true) (h : Q v { s with toks := s.toks + 1 }) :
    wpAny (model prog w) A (getAttr (.ref x) name expr) Q E s := by
  obtain ⟨od, J, hl⟩ := I.look
  exact PySem.W.get_value X J (PySem.W.plainGet_of hg).1 (PySem.W.findObj_own hh ha rfl (by rw [hl, hv])) hv' h

theorem get_const {expr : Bool} {a : Value} {Q : Value → Shared → Prop} (X : K.In s.heap) (I : ObjM s.heap x dx C mA) (hg : PySem.W.plainGet K C name = true) (hh : PySem.W.hasDictIn K C = true)
    (ha : PySem.W.findIn K (.ref C) name = some (some a)) (hn : PySem.W.specialIn K a "__get__" = some none) (hc : PySem.W.copiedNames.contains name = false) (hv : mA name = none) (hv' : PySem.W.handedIn a = true)
    (h : Q a { s with toks := s.toks + 1 }) : wpAny (model prog w) A (getAttr (.ref x) name expr) Q E s := by
  obtain ⟨od, J, hl⟩ := I.look
  exact PySem.W.get_value X J (PySem.W.plainGet_of hg).1 (PySem.W.findObj_cls hh ha hn hv' hc (by rw [hl, hv])) hv' h

theorem get_meth {pl : Sem Bool} {Q : Value × List Value → Shared → Prop} (X : K.In s.heap) (I : ObjM s.heap x dx C mA) (hg : PySem.W.plainGet K C name = true)
    (hf : PySem.W.findIn K (.ref C) name = some (some (.ref f))) (ht : PySem.W.isFn K (.ref f) = true) (hv : mA name = none) (h : Q (.ref f, [.ref x]) s) :
    wpAny (model prog w) A (getMethod (.ref x) name pl) Q E s := by
  obtain ⟨od, J, hl⟩ := I.look
  exact PySem.W.method_fn X J (PySem.W.plainGet_of hg).1 (PySem.W.plainGet_of hg).2 hf (beq_iff_eq.mp ht) (by show (PySem.W.lookIn name od).map (·.isSome) = some false; rw [hl, hv]; rfl) h

theorem set_map {ns : List Str} {Q : Unit → Shared → Prop} (X : K.In s.heap) (I : ObjM s.heap x dx C mA)
    (hs : PySem.W.findIn K (.ref C) "__setattr__" = some (some (.builtin "object.__setattr__"))) (hp : PySem.W.plainOver K C = true) (ht : PySem.W.takerIn K C name = some none) (hh : PySem.W.hasDictIn K C = true)
    (hw : PySem.Within mA ns) (hsz : ns.length ≤ sizeLine)
    (h : ∀ h', ObjM h' x dx C (fun y => if y = name then some v else mA y) → Heap.SameBut dx s.heap h' → Q () { s with heap := h', toks := s.toks + 2 }) :
    wpAny (model prog w) A (setAttr (.ref x) name v) Q E s := by
  obtain ⟨od, J, hl⟩ := I.look
  refine PySem.W.set_plain X J hs (PySem.W.osa_open (s := { s with toks := s.toks + 1 }) (r := none) X J hp ht fun b => ?_)
  obtain ⟨cd, hc, hd'⟩ := PySem.W.any_some hh
  have hx : s.heap.get? x = some ⟨.ref C, some dx, .plain, #[]⟩ := I.obj
  refine wpAny_bind (wpAny_pure (wpAny_bind (wpAny_bind (wpAny_loadPart hx (wpAny_bind (PySem.W.Looks.here (s := { s with toks := s.toks + 1 }) (PySem.W.looks_clsIn X hc) ?_))))))
  rw [hd']
  refine wpAny_pure (a := some dx) (wpAny_bind (wpAny_pure (wpAny_bind ?_)))
  refine wpAny_nsSet1 (s := { s with toks := s.toks + 1 }) I.ns fun h' hn2 hs2 => ?_
  obtain ⟨oD, esD, epD, hoD, hdD, hcD⟩ := hn2.count (PySem.Within.cons name v hw)
  refine wpAny_bind (wpAny_lookBehind hoD (by rw [hdD]; exact pastItsLine_dict (Nat.le_trans hcD (by rw [List.length_cons]; omega))) ?_)
  exact wpAny_pure (h _ ⟨(hs2.2 _ (Ne.symm I.ne)).trans I.obj, hn2, I.ne⟩ hs2)

/-- C(..): the dict at the heap's end, the instance behind it; then its __init__ -/
theorem make_map {R : Result → Shared → Prop} {vs : List Value} {kw : List (Str × Value)} (X : K.In s.heap) (hm : PySem.W.makesIn K C = true)
    (hi : PySem.W.findIn K (.ref C) "__init__" = some (some (.ref f))) (hf : PySem.W.typeIn K (.ref f) = some (.type "function"))
    (h : codeAny (model prog w) (A.under (.builtin "type.__call__" ⟨.ref C :: vs, kw⟩)) (.call (.ref f) ⟨.ref (s.heap.objs.size + 1) :: vs, kw⟩) (PySem.W.InitBack (s.heap.objs.size + 1) R)
      { s with heap := (s.heap.push PySem.W.emptyDict).push (PySem.W.instObj C s.heap.objs.size) }) :
    codeAny (model prog w) A (.call (.ref C) ⟨vs, kw⟩) R s := by
  obtain ⟨hh, g, d, t, os⟩ := s
  exact PySem.W.make_core (PySem.W.makes_of X hm) (PySem.W.looks_findIn X hi) (fun self => PySem.W.bind_fn X self hf) (.inl rfl) h
/-- C() where there is no __init__ but object's -/
theorem make_map0 {R : Result → Shared → Prop} (X : K.In s.heap) (hm : PySem.W.makesIn K C = true)
    (hi : PySem.W.findIn K (.ref C) "__init__" = some (some (.builtin "object.__init__")))
    (hb : ∀ self, PySem.W.Looks (model prog w) s.heap (bindSpecial (.builtin "object.__init__") self) (.builtin "object.__init__", [self]))
    (h : codeAny (model prog w) (A.under (.builtin "type.__call__" ⟨[.ref C], []⟩)) (.call (.builtin "object.__init__") ⟨[.ref (s.heap.objs.size + 1)], []⟩) (PySem.W.InitBack (s.heap.objs.size + 1) R)
      { s with heap := (s.heap.push PySem.W.emptyDict).push (PySem.W.instObj C s.heap.objs.size) }) :
    codeAny (model prog w) A (.call (.ref C) ⟨[], []⟩) R s := by
  obtain ⟨hh, g, d, t, os⟩ := s
  exact PySem.W.make_core (PySem.W.makes_of X hm) (PySem.W.looks_findIn X hi) hb (.inr ⟨rfl, rfl⟩) h
end

/-! ### the attributes as a list of pairs -/
def putF (f : Str) (v : V) : List (Str × V) → List (Str × V)
  | [] => [(f, v)]
  | (g, x) :: r => if g = f then (g, v) :: r else (g, x) :: putF f v r
theorem lookup_putF (f g : Str) (v : V) : ∀ fs : List (Str × V), (putF f v fs).lookup g = if g = f then some v else fs.lookup g
  | [] => by
    show List.lookup g [(f, v)] = _
    by_cases h : g = f
    · have hb : (g == f) = true := beq_iff_eq.mpr h
      simp only [List.lookup, hb, if_pos h]
    · have hb : (g == f) = false := beq_eq_false_iff_ne.mpr h
      simp only [List.lookup, hb, if_neg h]
  | (k, x) :: r => by
    have ih := lookup_putF f g v r
    rw [show putF f v ((k, x) :: r) = (if k = f then (k, v) :: r else (k, x) :: putF f v r) from rfl]
    by_cases hk : k = f
    · rw [if_pos hk]
      by_cases h : g = k
      · have hb : (g == k) = true := beq_iff_eq.mpr h
        simp only [List.lookup, hb, if_pos (h.trans hk)]
      · have hb : (g == k) = false := beq_eq_false_iff_ne.mpr h
        simp only [List.lookup, hb, if_neg (fun e : g = f => h (e.trans hk.symm))]
    · rw [if_neg hk]
      by_cases h : g = k
      · have hb : (g == k) = true := beq_iff_eq.mpr h
        simp only [List.lookup, hb, if_neg (fun e : g = f => hk (h.symm.trans e))]
      · have hb : (g == k) = false := beq_eq_false_iff_ne.mpr h
        simp only [List.lookup, hb]
        exact ih
theorem keys_putF (f : Str) (v : V) : ∀ fs : List (Str × V), f ∈ (putF f v fs).map (·.1) ∧ ∀ g, g ∈ fs.map (·.1) → g ∈ (putF f v fs).map (·.1)
  | [] => ⟨by simp [putF], fun g h => by simp at h⟩
  | (k, x) :: r => by
    obtain ⟨i1, i2⟩ := keys_putF f v r
    rw [show putF f v ((k, x) :: r) = (if k = f then (k, v) :: r else (k, x) :: putF f v r) from rfl]
    by_cases hk : k = f
    · rw [if_pos hk]
      subst hk
      exact ⟨by simp, fun g h => by simpa using h⟩
    · rw [if_neg hk]
      refine ⟨?_, fun g h => ?_⟩
      · rw [List.map_cons]
        exact List.mem_cons_of_mem _ i1
      · rw [List.map_cons] at h ⊢
        rcases List.mem_cons.mp h with e | e
        · exact List.mem_cons.mpr (.inl e)
        · exact List.mem_cons_of_mem _ (i2 g e)
theorem length_putF (f : Str) (v : V) : ∀ fs : List (Str × V), (putF f v fs).length ≤ fs.length + 1
  | [] => by simp [putF]
  | (k, x) :: r => by
    have ih := length_putF f v r
    rw [show putF f v ((k, x) :: r) = (if k = f then (k, v) :: r else (k, x) :: putF f v r) from rfl]
    by_cases hk : k = f
    · rw [if_pos hk, List.length_cons, List.length_cons]; omega
    · rw [if_neg hk, List.length_cons, List.length_cons]; omega

theorem RelO.some_of {v : V} {o : Option Value} (r : RelO (some v) o) : ∃ u, o = some u ∧ RelV v u := by
  cases o with
  | none => exact (show False from r).elim
  | some u => exact ⟨u, rfl, r⟩
theorem RelO.none_of {o : Option Value} (r : RelO none o) : o = none := by
  cases o with
  | none => rfl
  | some u => exact (show False from r).elim
theorem handed_of {v : V} {u : Value} (r : RelV v u) : PySem.W.handedIn u = true := by
  cases v with
  | non => cases (show u = Value.none from r); rfl
  | bl b => cases (show u = Value.bool b from r); rfl
  | int i => obtain ⟨t, e⟩ := (show ∃ t, u = Value.int i t from r); cases e; rfl
  | str x => obtain ⟨t, e⟩ := (show ∃ t, u = Value.str x t from r); cases e; rfl
  | byt b => obtain ⟨t, e⟩ := (show ∃ t, u = Value.bytes b t from r); cases e; rfl
  | flt b => obtain ⟨t, e⟩ := (show ∃ t, u = Value.float b t from r); cases e; rfl
  | ref a => cases (show u = Value.ref a from r); rfl
  | ty n => cases (show u = Value.type n from r); rfl

section
variable {P : Program} {w : World} {H H' : Hp} {h h' : Heap} {a C dx : Addr} {fs fs' : List (Str × V)}
theorem ins_get (hok : HOk P w H h) (e : H a = some (.ins C dx fs)) : ∃ mA, ObjM h a dx C mA ∧ (∀ f, RelO (fs.lookup f) (mA f)) ∧ PySem.Within mA (fs.map (·.1)) ∧ fs.length ≤ 1000 ∧ H dx = some (.own a) := by
  obtain ⟨d, z, ne, ob, mA, n, r, q⟩ := (show ObjOk P w H h a (.ins C dx fs) from hok a _ e)
  exact ⟨mA, ⟨ob, n, ne⟩, r, q, z, d⟩
end

/-! ### what of the text a class must have -/
structure Cls (K : PySem.W.Frag) (C : Addr) : Prop where
  pg : PySem.W.plainGet K C Str.empty = true
  hd : PySem.W.hasDictIn K C = true
  po : PySem.W.plainOver K C = true
  sa : PySem.W.findIn K (.ref C) "__setattr__" = some (some (.builtin "object.__setattr__"))
theorem Cls.get {K : PySem.W.Frag} {C : Addr} (c : Cls K C) (f : Str) : PySem.W.plainGet K C f = true := c.pg
/-- no class of it has the name -/
def NoAttr (K : PySem.W.Frag) (C : Addr) (f : Str) : Prop := PySem.W.findIn K (.ref C) f = some none
theorem NoAttr.taker {K : PySem.W.Frag} {C : Addr} {f : Str} (n : NoAttr K C f) : PySem.W.takerIn K C f = some none := by
  unfold PySem.W.takerIn
  rw [show PySem.W.findIn K (.ref C) f = some none from n]
  rfl
/-- a constant of the class -/
structure Con (K : PySem.W.Frag) (C : Addr) (f : Str) (v : V) (u : Value) : Prop where
  at_ : PySem.W.findIn K (.ref C) f = some (some u)
  rel : RelV v u
  get : PySem.W.specialIn K u "__get__" = some none
  cp : PySem.W.copiedNames.contains f = false
/-- a method: a plain def of the class or of one above it -/
structure Meth (K : PySem.W.Frag) (C : Addr) (m : Str) (f : Addr) : Prop where
  at_ : PySem.W.findIn K (.ref C) m = some (some (.ref f))
  fn : PySem.W.isFn K (.ref f) = true
  kp : PySem.W.keepIn K (.ref f) = true

section
variable {X : Cx} {pins : List (Addr × Obj)} {σ : St} {H : Hp} {s : Shared} {a C dx : Addr} {fs : List (Str × V)} {f : Str} {v : V} {A : Around} {E : Value → Shared → Prop}

theorem getattr_ok {b : Bool} {Q : Value → Shared → Prop} (I : Inv X pins σ H s) (e : H a = some (.ins C dx fs)) (c : Cls X.K C) (n : NoAttr X.K C f) (l : fs.lookup f = some v)
    (h : ∀ u s', Inv X pins σ H s' → RelV v u → Q u s') : wpAny (model X.prog X.w) A (getAttr (.ref a) f b) Q E s := by
  obtain ⟨mA, O, r, _, _, _⟩ := ins_get I.hok e
  obtain ⟨u, hu, ru⟩ := RelO.some_of (v := v) (o := mA f) (by rw [← l]; exact r f)
  exact get_map I.kIn O (c.get f) c.hd n hu (handed_of ru) (h u _ (I.tok _) ru)

theorem getcon_ok {b : Bool} {u : Value} {Q : Value → Shared → Prop} (I : Inv X pins σ H s) (e : H a = some (.ins C dx fs)) (c : Cls X.K C) (k : Con X.K C f v u) (l : fs.lookup f = none)
    (h : ∀ s', Inv X pins σ H s' → Q u s') : wpAny (model X.prog X.w) A (getAttr (.ref a) f b) Q E s := by
  obtain ⟨mA, O, r, _, _, _⟩ := ins_get I.hok e
  have hn : mA f = none := RelO.none_of (by rw [← l]; exact r f)
  exact get_const I.kIn O (c.get f) c.hd k.at_ k.get k.cp hn (handed_of k.rel) (h _ (I.tok _))

theorem getmeth_ok {m : Str} {g : Addr} {pl : Sem Bool} {Q : Value × List Value → Shared → Prop} (I : Inv X pins σ H s) (e : H a = some (.ins C dx fs)) (c : Cls X.K C) (k : Meth X.K C m g) (l : fs.lookup m = none)
    (h : Q (.ref g, [.ref a]) s) : wpAny (model X.prog X.w) A (getMethod (.ref a) m pl) Q E s := by
  obtain ⟨mA, O, r, _, _, _⟩ := ins_get I.hok e
  have hn : mA m = none := RelO.none_of (by rw [← l]; exact r m)
  exact get_meth I.kIn O (c.get m) k.at_ k.fn hn h

theorem setattr_ok {y : V} {u : Value} {Q : Unit → Shared → Prop} (I : Inv X pins σ H s) (e : H a = some (.ins C dx fs)) (c : Cls X.K C) (n : NoAttr X.K C f) (hl : fs.length < 1000) (ry : RelV y u)
    (h : ∀ s', Inv X pins σ (upd H a (.ins C dx (putF f y fs))) s' → Q () s') : wpAny (model X.prog X.w) A (setAttr (.ref a) f u) Q E s := by
  obtain ⟨mA, O, r, wi, _, ho⟩ := ins_get I.hok e
  have hz : (fs.map (·.1)).length ≤ sizeLine := by rw [List.length_map, sizeLine_eq]; omega
  refine set_map I.kIn O c.sa c.po n.taker c.hd wi hz fun h' O' sb => h _ ?_
  have hd : ∃ o, h'.get? dx = some o := let ⟨o, _, _, e', _⟩ := O'.ns; ⟨o, e'⟩
  refine I.write (x := a) (e := dx) (by rw [e]; exact True.intro) (.inr ho) (fun b q hb z => (sb.2 b hb).trans z) hd ?_
  refine ⟨by rw [upd_ne O.ne]; exact ho, ?_, O.ne, O'.obj, _, O'.ns, fun g => ?_, fun g hg => ?_⟩
  · have := length_putF f y fs; omega
  · show RelO ((putF f y fs).lookup g) (if g = f then some u else mA g)
    rw [lookup_putF]
    by_cases q : g = f
    · rw [if_pos q, if_pos q]; exact ry
    · rw [if_neg q, if_neg q]; exact r g
  · by_cases q : g = f
    · rw [q]; exact (keys_putF f y fs).1
    · refine (keys_putF f y fs).2 g (wi g fun z => hg ?_)
      show (if g = f then some u else mA g) = none
      rw [if_neg q]; exact z

/-- a new instance, tracked, without attributes -/
theorem Inv.made (I : Inv X pins σ H s) : Inv X pins σ (upd (upd H s.heap.objs.size (.own (s.heap.objs.size + 1))) (s.heap.objs.size + 1) (.ins C s.heap.objs.size []))
    { s with heap := (s.heap.push PySem.W.emptyDict).push (PySem.W.instObj C s.heap.objs.size) } := by
  have e1 : (s.heap.push PySem.W.emptyDict).get? s.heap.objs.size = some PySem.W.emptyDict := Heap.get?_push_size s.heap rfl
  have e2 : ((s.heap.push PySem.W.emptyDict).push (PySem.W.instObj C s.heap.objs.size)).get? (s.heap.objs.size + 1) = some (PySem.W.instObj C s.heap.objs.size) := by
    have := Heap.get?_push_size (s.heap.push PySem.W.emptyDict) (o := PySem.W.instObj C s.heap.objs.size) rfl
    rwa [Heap.size_push] at this
  have e3 : (s.heap.push PySem.W.emptyDict).Ns s.heap.objs.size (fun _ => none) := ⟨PySem.W.emptyDict, #[], _, e1, rfl, (fun e he => absurd he (by simp)), fun _ => rfl⟩
  have I1 := I.laid (a := s.heap.objs.size) (o := .own (s.heap.objs.size + 1)) (h' := s.heap.push PySem.W.emptyDict) (t' := s.toks) (fun b u q => Heap.get?_push_of_some _ q) (Nat.le_refl _) ⟨_, e1⟩
  refine I1.laid (a := s.heap.objs.size + 1) (o := .ins C s.heap.objs.size []) (t' := s.toks) (fun b u q => Heap.get?_push_of_some _ q) (Nat.le_of_eq (Heap.size_push _ _)) ?_
  have ne : s.heap.objs.size ≠ s.heap.objs.size + 1 := Nat.ne_of_lt (Nat.lt_succ_self _)
  refine ⟨by rw [upd_ne ne, upd_same], Nat.zero_le _, ne, e2, fun _ => none, (Heap.Ns1.of_empty e3).at fun o q => Heap.get?_push_of_some _ q, fun _ => True.intro, fun y hy => absurd rfl hy⟩

/-- e.f where nothing but the object is asked: through attributeBase (super) and the last hold -/
theorem attr_of {prog : Program} {w : World} {env : Env} {e : Expr} {f : Str} {pos : Pos} {s : Shared} {Q : Value → Shared → Prop} (hb : attributeBase e f env (eval e env) = eval e env)
    (h : wpAny (model prog w) A (eval e env) (fun o s₁ => wpAny (model prog w) A (getAttr o f true) Q E s₁) E s) : wpAny (model prog w) A (eval (.Attribute e f pos) env) Q E s :=
  Attribute_any_ h (by rw [arm_eval_Attribute, hb])
end

/-! ### readings and rules -/
/-- e.f, an attribute of the instance -/
def tFld (K : PySem.W.Frag) (ta : TE) (f : Str) : TE := fun σ H Q => ta σ H fun x H1 => ∃ a C dx fs v, x = .ref a ∧ H1 a = some (.ins C dx fs) ∧ Cls K C ∧ NoAttr K C f ∧ fs.lookup f = some v ∧ Q v H1
/-- e.f, a constant of the class -/
def tCon (K : PySem.W.Frag) (ta : TE) (f : Str) : TE := fun σ H Q => ta σ H fun x H1 => ∃ a C dx fs v u, x = .ref a ∧ H1 a = some (.ins C dx fs) ∧ Cls K C ∧ Con K C f v u ∧ fs.lookup f = none ∧ Q v H1
/-- e.f = value -/
def sFld (K : PySem.W.Frag) (ta tv : TE) (f : Str) : TS := fun D σ H => tv σ H fun y H1 => ta σ H1 fun x H2 => ∃ a C dx fs, x = .ref a ∧ H2 a = some (.ins C dx fs) ∧ Cls K C ∧ NoAttr K C f ∧ fs.length < 1000 ∧
  D.nx σ (upd H2 a (.ins C dx (putF f y fs)))
/-- an augmented operator on two values -/
def InOp (X : Cx) (op : Operator) (rd : V → V → Hp → VK → Prop) : Prop :=
  ∀ (pins : List (Addr × Obj)) (s : Shared) (σ : St) (H : Hp) (x y : V) (u v : Value) (Q : VK), Inv X pins σ H s → RelV x u → RelV y v → rd x y H Q → wpAny (model X.prog X.w) X.A (inplaceOp op u v) (EP X pins σ Q) X.xe s
/-- e.f op= value -/
def sFldAug (K : PySem.W.Frag) (ta tv : TE) (rd : V → V → Hp → VK → Prop) (f : Str) : TS := fun D σ H => ta σ H fun x H1 => ∃ a C dx fs v, x = .ref a ∧ H1 a = some (.ins C dx fs) ∧ Cls K C ∧ NoAttr K C f ∧ fs.lookup f = some v ∧
  tv σ H1 fun y H2 => rd v y H2 fun z H3 => ∃ dx' fs', H3 a = some (.ins C dx' fs') ∧ fs'.length < 1000 ∧ D.nx σ (upd H3 a (.ins C dx' (putF f z fs')))

section
variable {X : Cx} {o e value : Expr} {f : Str} {pos pos' tpos : Pos} {ta tv : TE}
theorem pe_fld (he : PE X e ta) (hb : attributeBase e f X.env (eval e X.env) = eval e X.env) : PE X (.Attribute e f pos) (tFld X.K ta f) := by
  intro pins s σ H Q I h
  refine attr_of hb (thn (he pins s σ H _ I h) fun u s1 ⟨x, H1, I1, rx, a, C, dx, fs, v, ex, ea, c, n, l, q⟩ => ?_)
  subst ex
  obtain rfl : u = Value.ref a := rx
  exact getattr_ok I1 ea c n l fun u' s2 I2 ru => ⟨v, H1, I2, ru, q⟩
theorem pe_con (he : PE X e ta) (hb : attributeBase e f X.env (eval e X.env) = eval e X.env) : PE X (.Attribute e f pos) (tCon X.K ta f) := by
  intro pins s σ H Q I h
  refine attr_of hb (thn (he pins s σ H _ I h) fun u s1 ⟨x, H1, I1, rx, a, C, dx, fs, v, u0, ex, ea, c, k, l, q⟩ => ?_)
  subst ex
  obtain rfl : u = Value.ref a := rx
  exact getcon_ok I1 ea c k l fun s2 I2 => ⟨v, H1, I2, k.rel, q⟩
theorem ps_fld (ha : PE X o ta) (hv : PE X value tv) (hs : swapsWith value (some (.Attribute o f pos')) pos.line X.env = pure false) : PS X (.Assign [.Attribute o f pos'] value pos) (sFld X.K ta tv f) := by
  intro pins s σ H D I h
  refine plainObj_wpAny_Assign_Attribute (thn (hv pins s σ H _ I h) fun u s1 ⟨y, H1, I1, ry, q⟩ => thn (ha pins s1 σ H1 _ I1 q) fun ov s2 ⟨x, H2, I2, rx, a, C, dx, fs, ex, ea, c, n, l, q2⟩ => ?_) hs
  subst ex
  obtain rfl : ov = Value.ref a := rx
  exact setattr_ok I2 ea c n l ry fun s3 I3 => ⟨σ, _, I3, q2⟩
theorem ps_fldaug {op : Operator} {rd : V → V → Hp → VK → Prop} (ha : PE X o ta) (hv : PE X value tv) (hop : InOp X op rd) : PS X (.AugAssign (.Attribute o f tpos) op value pos) (sFldAug X.K ta tv rd f) := by
  intro pins s σ H D I h
  refine wpAny_AugAssign_AttributeAny (thn (ha pins s σ H _ I h) fun ov s1 ⟨x, H1, I1, rx, a, C, dx, fs, v, ex, ea, c, n, l, q⟩ => ?_)
  subst ex
  obtain rfl : ov = Value.ref a := rx
  refine getattr_ok I1 ea c n l fun u s2 I2 ru => thn (hv pins s2 σ H1 _ I2 q) fun w3 s3 ⟨y, H2, I3, ry, q3⟩ => thn (hop pins s3 σ H2 v y u w3 _ I3 ru ry q3) fun w4 s4 ⟨z, H3, I4, rz, dx', fs', ea', l', q4⟩ => ?_
  exact setattr_ok I4 ea' c n l' rz fun s5 I5 => ⟨σ, _, I5, q4⟩
def rAdd : V → V → Hp → VK → Prop := fun x y H Q => ∃ i j, x = .int i ∧ y = .int j ∧ Q (.int (i + j)) H
def rSub : V → V → Hp → VK → Prop := fun x y H Q => ∃ i j, x = .int i ∧ y = .int j ∧ Q (.int (i - j)) H
theorem in_add : InOp X .Add rAdd := by
  rintro pins s σ H x y u v Q I rx ry ⟨i, j, rfl, rfl, q⟩
  obtain ⟨t, rfl⟩ := (show ∃ t, u = Value.int i t from rx)
  obtain ⟨t', rfl⟩ := (show ∃ t', v = Value.int j t' from ry)
  exact PyProof.Rows.iadd_int ⟨.int (i + j), H, I.tok _, ⟨_, rfl⟩, q⟩
theorem in_sub : InOp X .Sub rSub := by
  rintro pins s σ H x y u v Q I rx ry ⟨i, j, rfl, rfl, q⟩
  obtain ⟨t, rfl⟩ := (show ∃ t, u = Value.int i t from rx)
  obtain ⟨t', rfl⟩ := (show ∃ t', v = Value.int j t' from ry)
  exact PyProof.Rows.isub_int ⟨.int (i - j), H, I.tok _, ⟨_, rfl⟩, q⟩

/-- what is between an instance and its method: the tree of a method call -/
theorem methcall_of {pl : Sem Bool} {m : Str} {apos : Pos} {args : List Expr} {pins : List (Addr × Obj)} {s : Shared} {σ : St} {H : Hp} {Q : Value → Shared → Prop} {te : TE} (he : PE X e te) (I : Inv X pins σ H s)
    (h : te σ H fun x H1 => ∃ a C dx fs g, x = .ref a ∧ H1 a = some (.ins C dx fs) ∧ Cls X.K C ∧ Meth X.K C m g ∧ fs.lookup m = none ∧
      ∀ s1, Inv X pins σ H1 s1 → wpAny (model X.prog X.w) X.A (callWith pos (.ref g) [.ref a] (backTo pos (starEach args X.env)) (backToKw pos (keywordEach [] X.env))) Q X.xe s1)
    (ht : eval (.Call (.Attribute e m apos) args [] pos) X.env = (do
      let ov ← eval e X.env
      standAt apos.atName
      let (f, first) ← holding [ov] (getMethod ov m pl)
      callWith pos f first (backTo pos (starEach args X.env)) (backToKw pos (keywordEach [] X.env)))) :
    wpAny (model X.prog X.w) X.A (eval (.Call (.Attribute e m apos) args [] pos) X.env) Q X.xe s := by
  refine PySem.W.methodCall_KW (pl := pl) (thn (he pins s σ H _ I h) fun u s1 ⟨x, H1, I1, rx, a, C, dx, fs, g, ex, ea, c, k, l, q⟩ => ?_) ht
  subst ex
  obtain rfl : u = Value.ref a := rx
  exact getmeth_ok I1 ea c k l (q s1 I1)
end

/-! ### isinstance -/
section
variable {X : Cx} {pins : List (Addr × Obj)} {σ : St} {H : Hp} {s : Shared} {A : Around} {E : Value → Shared → Prop} {Q : Value → Shared → Prop} {c : Value} {b : Bool}
/-- the type of a value, as the fragment's deciders take it; for an instance its class -/
inductive TyOf (K : PySem.W.Frag) (H : Hp) : V → Value → Prop where
  | non : TyOf K H .non (.type "NoneType")
  | bl (x : Bool) : TyOf K H (.bl x) (.type "bool")
  | int (i : Int) : TyOf K H (.int i) (.type "int")
  | str (x : Str) : TyOf K H (.str x) (.type "str")
  | flt (x : UInt64) : TyOf K H (.flt x) (.type "float")
  | lst {a : Addr} {xs : List V} (e : H a = some (.lst xs)) : TyOf K H (.ref a) (.type "list")
  | frz {a : Addr} {o : Obj} {xs : List V} (e : H a = some (.frz o (.lst xs))) : TyOf K H (.ref a) (.type "list")
  | tup {a : Addr} {xs : List V} (e : H a = some (.tup xs)) : TyOf K H (.ref a) (.type "tuple")
  | dK {a : Addr} {kvs : List (Key × V)} (e : H a = some (.dK kvs)) : TyOf K H (.ref a) (.type "dict")
  | dT {a : Addr} {kvs : List (List Key × V)} (e : H a = some (.dT kvs)) : TyOf K H (.ref a) (.type "dict")
  | ins {a C dx : Addr} {fs : List (Str × V)} (e : H a = some (.ins C dx fs)) (cl : Cls K C) (ha : PySem.W.findIn K (.ref C) "__class__" = some (some (.builtin "object.__class__")))
      (hn : PySem.W.specialIn K (.builtin "object.__class__") "__get__" = some (some (.builtin "getset_descriptor.__get__"))) (htk : PySem.W.takesIn K (.builtin "object.__class__") = some true)
      (hm : PySem.W.mroIn K C (.type "object") = some true) : TyOf K H (.ref a) (.ref C)
/-- isinstance(x, c) for one class c, a built-in or an own one: kitOne's answer -/
theorem isinst_ok {x : V} {u t : Value} (I : Inv X pins σ H s) (rx : RelV x u) (ty : TyOf X.K H x t) (e : PySem.W.kitOne X.K t c = some b) (h : ∀ tk, Q (.bool b) { s with toks := tk }) :
    wpAny (model X.prog X.w) A (call (.builtin "isinstance") [u, c]) Q E s := by
  cases ty with
  | non => cases (show u = Value.none from rx); exact PySem.W.kia_one PySem.W.kitx_none I.kIn True.intro e (fun z => nomatch z) h
  | bl y => cases (show u = Value.bool y from rx); exact PySem.W.kia_one PySem.W.kitx_bool I.kIn True.intro e (fun z => nomatch z) h
  | int i => obtain ⟨t, q⟩ := (show ∃ t, u = Value.int i t from rx); cases q; exact PySem.W.kia_one PySem.W.kitx_int I.kIn True.intro e (fun z => nomatch z) h
  | str y => obtain ⟨t, q⟩ := (show ∃ t, u = Value.str y t from rx); cases q; exact PySem.W.kia_one PySem.W.kitx_str I.kIn True.intro e (fun z => nomatch z) h
  | flt y => obtain ⟨t, q⟩ := (show ∃ t, u = Value.float y t from rx); cases q; exact PySem.W.kia_one PySem.W.kitx_float I.kIn True.intro e (fun z => nomatch z) h
  | @lst a xs ea =>
    cases (show u = Value.ref a from rx)
    obtain ⟨_, _, n, _, h1⟩ := (show ObjOk X.prog X.w H s.heap a (.lst xs) from I.hok a _ ea)
    exact PySem.W.kia_one PySem.W.kitx_list I.kIn ⟨_, h1, rfl⟩ e (fun z => nomatch z) h
  | @frz a ob xs ea =>
    cases (show u = Value.ref a from rx)
    obtain ⟨_, _, _, n, _, h1⟩ := (show ObjOk X.prog X.w H s.heap a (.frz ob (.lst xs)) from I.hok a _ ea)
    exact PySem.W.kia_one PySem.W.kitx_list I.kIn ⟨_, h1, rfl⟩ e (fun z => nomatch z) h
  | @tup a xs ea =>
    cases (show u = Value.ref a from rx)
    obtain ⟨_, _, _, p⟩ := (show ObjOk X.prog X.w H s.heap a (.tup xs) from I.hok a _ ea)
    obtain ⟨o, h1, h2, _⟩ := p
    exact PySem.W.kia_one PySem.W.kitx_tuple I.kIn ⟨o, h1, h2⟩ e (fun z => nomatch z) h
  | @dK a kvs ea =>
    cases (show u = Value.ref a from rx)
    obtain ⟨_, _, vs, _, p⟩ := (show ObjOk X.prog X.w H s.heap a (.dK kvs) from I.hok a _ ea)
    obtain ⟨o, es, ep, h1, h2, _⟩ := p
    exact PySem.W.kia_one PySem.W.kitx_dict I.kIn ⟨o, h1, h2.1⟩ e (fun z => nomatch z) h
  | @dT a kvs ea =>
    cases (show u = Value.ref a from rx)
    obtain ⟨_, _, xs, _, o, es, ep, h1, h2, _⟩ := (show ObjOk X.prog X.w H s.heap a (.dT kvs) from I.hok a _ ea)
    exact PySem.W.kia_one PySem.W.kitx_dict I.kIn ⟨o, h1, h2.1⟩ e (fun z => nomatch z) h
  | @ins a C dx fs ea cl ha hn htk hm =>
    cases (show u = Value.ref a from rx)
    obtain ⟨mA, O, _⟩ := ins_get I.hok ea
    obtain ⟨od, J, _⟩ := O.look
    exact PySem.W.kia_one (PySem.W.kitx_own (cl.get _) cl.hd ha hn htk hm) I.kIn J e (fun z => nomatch z) h
end
end L2

namespace L2
open PySem PySem.Spec PyProof.Rows

/-! ### room -/
structure Room (k : Nat) (A : Around) : Prop where
  hd : A.handled = none
  dp : A.depth + 3 * k + 5 < recursionLimit
  un : A.units + 16 * k + 200 < cLine
  gd : A.guards = some []
theorem Room.mono {j k : Nat} {A : Around} (r : Room k A) (h : j ≤ k) : Room j A := ⟨r.hd, by have := r.dp; omega, by have := r.un; omega, r.gd⟩
theorem Room.deeper {k : Nat} {A : Around} (r : Room (k + 1) A) (env : Env) : Room k (A.deeper env) :=
  ⟨r.hd, by have := r.dp; show A.depth + 1 + 3 * k + 5 < _; omega, by have := r.un; show A.units + 3 + 16 * k + 200 < _; omega, r.gd⟩
theorem Room.in1 {k : Nat} {A : Around} (r : Room (k + 1) A) : Room k A.in1 :=
  ⟨r.hd, by have := r.dp; show A.depth + 3 * k + 5 < _; omega, by have := r.un; show A.units + 1 + 16 * k + 200 < _; omega, r.gd⟩
theorem make_depth {A : Around} {C : Addr} {us : List Value} {kw : List (Str × Value)} : (A.under (.builtin "type.__call__" ⟨.ref C :: us, kw⟩)).depth = A.depth + 1 := by
  first | rfl | simp [Around.under, Code.weight, Code.isCreation, Code.isGuard, Code.isCaller, Code.frames, Code.isFrame, guardIds]
theorem make_units {A : Around} {C : Addr} {us : List Value} {kw : List (Str × Value)} : (A.under (.builtin "type.__call__" ⟨.ref C :: us, kw⟩)).units = A.units + 1 := by
  first | rfl | simp [Around.under, Code.cUnits, Code.frames, Code.isFrame]
theorem make_guards {A : Around} {C : Addr} {us : List Value} {kw : List (Str × Value)} (h : A.guards = some []) : (A.under (.builtin "type.__call__" ⟨.ref C :: us, kw⟩)).guards = some [] := by
  simp [Around.under, Code.guards, Code.isGuard, guardIds, pushGuards, h]
theorem Room.make {k : Nat} {A : Around} (r : Room (k + 1) A) (C : Addr) (us : List Value) (kw : List (Str × Value)) : Room k (A.under (.builtin "type.__call__" ⟨.ref C :: us, kw⟩)) :=
  ⟨r.hd, by have := r.dp; rw [make_depth]; omega, by have := r.un; rw [make_units]; omega, make_guards r.gd⟩
theorem Room.depth {k : Nat} {A : Around} (r : Room k A) : A.depth < recursionLimit := by have := r.dp; omega
theorem Room.units {k : Nat} {A : Around} (r : Room k A) : A.units + 64 < cLine := by have := r.un; omega
theorem Room.units0 {k : Nat} {A : Around} (r : Room k A) : A.units < cLine := by have := r.un; omega

/-! ### argument lists and displays -/
def tNil : TA := fun _ H Q => Q [] H
def tCons (ta : TE) (tr : TA) : TA := fun σ H Q => ta σ H fun x H1 => tr σ H1 fun xs H2 => Q (x :: xs) H2
section
variable {X : Cx} {e : Expr} {es : List Expr} {te : TE} {t : TA} {pos : Pos}
theorem pa_nil : PA X [] tNil := fun _ _ _ _ H Q I h => Calls.spliced_nil ⟨[], H, I, .nil, h⟩
theorem pa_cons (ha : PE X e te) (hr : PA X es t) (hs : starEach (e :: es) X.env = (false, eval e X.env) :: starEach es X.env := by rfl) : PA X (e :: es) (tCons te t) := by
  intro pos pins s σ H Q I h
  rw [hs]
  show wpAny _ _ (spliced ((false, eval e X.env) :: backTo pos (starEach es X.env))) _ _ s
  refine Calls.spliced_cons (thn (ha pins s σ H _ I h) fun u s1 ⟨x, H1, I1, r1, q1⟩ => ?_)
  exact thn (hr pos pins s1 σ H1 _ I1 q1) fun us s2 ⟨xs, H2, I2, r2, q2⟩ => ⟨x :: xs, H2, I2, .cons r1 r2, q2⟩

/-- a tuple, a list of written items -/
def tTup (t : TA) : TE := fun σ H Q => t σ H fun xs H1 => xs.length ≤ sizeLine ∧ ∀ p, H1 p = none → Q (.ref p) (upd H1 p (.tup xs))
def tLst (t : TA) : TE := fun σ H Q => t σ H fun xs H1 => xs.length ≤ sizeLine ∧ ∀ p, H1 p = none → Q (.ref p) (upd H1 p (.lst xs))
theorem pe_tup {x1} (h : PA X es t) : PE X (.Tuple es x1 pos) (tTup t) := by
  intro pins s σ H Q I hq
  refine wpAny_Tuple_spliced (thn (h pos pins s σ H _ I hq) fun us s1 ⟨xs, H1, I1, r, z, q⟩ => ⟨by rw [← r.length]; exact z, ?_⟩)
  have hf : H1 s1.heap.objs.size = none := I1.hok.fresh (Nat.le_refl _)
  refine ⟨.ref s1.heap.objs.size, upd H1 s1.heap.objs.size (.tup xs), I1.laid (t' := s1.toks) (fun b u e => Heap.get?_push_of_some _ e) (Nat.le_refl _) ?_, rfl, q _ hf⟩
  exact ⟨z, us, r, ⟨_, Heap.get?_push_size _ rfl, rfl, _, rfl⟩⟩
theorem pe_lst (h : PA X es t) : PE X (.List es pos) (tLst t) := by
  intro pins s σ H Q I hq
  refine wpAny_List_spliced (thn (h pos pins s σ H _ I hq) fun us s1 ⟨xs, H1, I1, r, z, q⟩ => ⟨by rw [← r.length]; exact z, ?_⟩)
  have hf : H1 s1.heap.objs.size = none := I1.hok.fresh (Nat.le_refl _)
  refine ⟨.ref s1.heap.objs.size, upd H1 s1.heap.objs.size (.lst xs), I1.laid (t' := s1.toks) (fun b u e => Heap.get?_push_of_some _ e) (Nat.le_refl _) ?_, rfl, q _ hf⟩
  exact ⟨z, us, 0, r, Heap.get?_push_size _ rfl⟩
end

/-! ### what a def promises -/
/-- a def's promise: the bound arguments in the parameters' order, the heap, the wanted end, the wanted exception -/
abbrev Sp := List V → Hp → VK → XK → Prop
/-- how an exception lies behind a call (file 08 gives it): the callers' frames, abstract heap and state ahead of the call, the wish, the exception, the state -/
abbrev CXT := List Env → Hp → Shared → XK → Value → Shared → Prop

/-- the state at a call -/
structure Env0 (P : Program) (w : World) (K : PySem.W.Frag) (mg : Str → Option Value) (base : Heap) (A : Around) (outer : List Env) (s : Shared) (H : Hp) : Prop where
  frames : A.frames = some outer
  mod : Mod K mg base
  bs : ∀ b o, base.get? b = some o → s.heap.get? b = some o ∧ H b = none
  bsz : base.objs.size ≤ s.heap.objs.size
  funs : s.heap.FunFrames base outer
  frf : ∀ b ∈ frs outer, H b = none
  hok : HOk P w H s.heap
  bare : AllBare s.gens
/-- a call's end -/
def CE (outer : List Env) (P : Program) (w : World) (H : Hp) (s : Shared) (Q : VK) (u : Value) (s' : Shared) : Prop :=
  ∃ v H', s'.os = s.os ∧ AllBare s'.gens ∧ Un (frs outer) [] H H' s.heap s'.heap ∧ HOk P w H' s'.heap ∧ RelV v u ∧ Q v H'
def CR (CX : CXT) (outer : List Env) (P : Program) (w : World) (H : Hp) (s : Shared) (Q : VK) (E : XK) (r : Result) (s' : Shared) : Prop :=
  match r with
  | .ok (.ret u) => CE outer P w H s Q u s'
  | .ok _ => False
  | .error e => CX outer H s E e s'
structure FnOk (P : Program) (w : World) (K : PySem.W.Frag) (mg : Str → Option Value) (base : Heap) (CX : CXT) (k : Nat) (f : Addr) (fd : FuncData) (ps : List Str) (sp : Sp) : Prop where
  len : ∀ vs H Q E, sp vs H Q E → vs.length = ps.length
  run : ∀ (A : Around) (outer : List Env) (s : Shared) (H : Hp) (args : Args) (us : List Value) (vs : List V) (Q : VK) (E : XK), Room k A → Env0 P w K mg base A outer s H → BindsTo s fd args (ps.zip us) → Vals vs us → sp vs H Q E →
    codeAny (model P w) A (.call (.ref f) args) (CR CX outer P w H s Q E) s
theorem FnOk.mono {P : Program} {w : World} {K : PySem.W.Frag} {mg : Str → Option Value} {base : Heap} {CX : CXT} {j k : Nat} {f : Addr} {fd : FuncData} {ps : List Str} {sp : Sp} (F : FnOk P w K mg base CX j f fd ps sp) (h : j ≤ k) :
    FnOk P w K mg base CX k f fd ps sp := ⟨F.len, fun A outer s H args us vs Q E hr => F.run A outer s H args us vs Q E (hr.mono h)⟩
/-- a weaker promise -/
theorem FnOk.imp {P : Program} {w : World} {K : PySem.W.Frag} {mg : Str → Option Value} {base : Heap} {CX : CXT} {k : Nat} {f : Addr} {fd : FuncData} {ps : List Str} {sp sp' : Sp} (F : FnOk P w K mg base CX k f fd ps sp)
    (h : ∀ vs H Q E, sp' vs H Q E → sp vs H Q E) : FnOk P w K mg base CX k f fd ps sp' :=
  ⟨fun vs H Q E q => F.len vs H Q E (h _ _ _ _ q), fun A outer s H args us vs Q E hr he hb hv hs => F.run A outer s H args us vs Q E hr he hb hv (h _ _ _ _ hs)⟩

theorem Env0.make {P : Program} {w : World} {K : PySem.W.Frag} {mg : Str → Option Value} {base : Heap} {A : Around} {outer : List Env} {s : Shared} {H : Hp} (e : Env0 P w K mg base A outer s H) (C : Addr) (us : List Value) (kw : List (Str × Value)) :
    Env0 P w K mg base (A.under (.builtin "type.__call__" ⟨.ref C :: us, kw⟩)) outer s H := ⟨by first | exact e.frames | (simpa [Around.under, Code.envs, Code.isFrame, pushEnvs] using e.frames), e.mod, e.bs, e.bsz, e.funs, e.frf, e.hok, e.bare⟩
theorem Env0.in1 {P : Program} {w : World} {K : PySem.W.Frag} {mg : Str → Option Value} {base : Heap} {A : Around} {outer : List Env} {s : Shared} {H : Hp} (e : Env0 P w K mg base A outer s H) :
    Env0 P w K mg base A.in1 outer s H := ⟨e.frames, e.mod, e.bs, e.bsz, e.funs, e.frf, e.hok, e.bare⟩

section
variable {X : Cx} {pins : List (Addr × Obj)} {σ : St} {H : Hp} {s s' : Shared}
/-- from a body: what a callee wants -/
theorem Inv.env0 (I : Inv X pins σ H s) : Env0 X.prog X.w X.K X.mg X.base X.A X.stack s H :=
  ⟨I.ok.frames, I.ok.mod, I.bs, Nat.le_trans I.ok.bsz I.sz, I.stack, I.stkFree, I.hok, I.bare⟩
/-- behind a call -/
theorem Inv.after {Q : VK} {u : Value} (I : Inv X pins σ H s) (h : CE X.stack X.prog X.w H s Q u s') : EP X pins σ Q u s' := by
  obtain ⟨v, H', os, bare, un, hok, r, q⟩ := h
  obtain ⟨hh, g, d, t, os'⟩ := s'
  obtain rfl : os' = s.os := os
  exact ⟨v, H', I.call (h' := hh) (g' := g) (d' := d) (t' := t) (ch := []) un hok bare (fun b z => absurd z (by simp)), r, q⟩
end

/-! ### calls -/
/-- f(..): the written arguments, then the defaults dvs; E: what is wanted of an exception -/
def tCall (sp : Sp) (dvs : List V) (E : XK) (t : TA) : TE := fun σ H Q => t σ H fun vs H1 => sp (vs ++ dvs) H1 Q E
/-- o.m(..) of an instance of the class at C -/
def tMeth (C : Addr) (m : Str) (sp : Sp) (dvs : List V) (E : XK) (ta : TE) (t : TA) : TE := fun σ H Q => ta σ H fun x H1 => ∃ a dx fs, x = .ref a ∧ H1 a = some (.ins C dx fs) ∧ fs.lookup m = none ∧
  t σ H1 fun vs H2 => sp (x :: (vs ++ dvs)) H2 Q E
/-- C(..): a new instance and its dict, then __init__ -/
def tMake (C : Addr) (sp : Sp) (dvs : List V) (E : XK) (t : TA) : TE := fun σ H Q => t σ H fun vs H1 => ∀ x dx, H1 x = none → H1 dx = none → dx ≠ x →
  sp (.ref x :: (vs ++ dvs)) (upd (upd H1 dx (.own x)) x (.ins C dx [])) (fun v H2 => v = .non ∧ Q (.ref x) H2) E

/-- how the parameters are bound: us the positional arguments, kw the keywords' values by name, ds the defaults that fill up -/
def Binds (K : PySem.W.Frag) (fd : FuncData) (ps : List Str) (ds : List Value) : Prop :=
  ∀ (s : Shared) (us : List Value), K.In s.heap → (us ++ ds).length = ps.length → BindsTo s fd ⟨us, []⟩ (ps.zip (us ++ ds))
/-- every parameter is given -/
theorem Binds.all {K : PySem.W.Frag} {fd : FuncData} {ps : List Str} (h : ∀ us : List Value, us.length = ps.length → bindArgs fd ⟨us, []⟩ = pure (ps.zip us)) : Binds K fd ps [] := fun s us _ hl => by
  rw [List.append_nil] at hl ⊢
  exact .of_eq (h us hl)

/-- an exception of a callee reaches what this body wants of exceptions -/
def Passes (CX : CXT) (X : Cx) (E : XK) : Prop := ∀ (pins : List (Addr × Obj)) (σ : St) (H : Hp) (s : Shared) (e : Value) (s' : Shared), Inv X pins σ H s → CX X.stack H s E e s' → X.xe e s'

section
variable {X : Cx} {CX : CXT} {k : Nat} {f C : Addr} {fd : FuncData} {ps : List Str} {sp : Sp} {dvs : List V} {ds : List Value} {E : XK} {x m : Str} {p pos apos : Pos} {e o : Expr} {es : List Expr} {ta : TE} {t : TA}

/-- the callee runs -/
theorem run_fn {pins : List (Addr × Obj)} {σ : St} {H : Hp} {s : Shared} {Q : VK} {us : List Value} {vs : List V} (F : FnOk X.prog X.w X.K X.mg X.base CX k f fd ps sp) (hr : Room k X.A) (hb : Binds X.K fd ps ds) (hd : Vals dvs ds) (hx : Passes CX X E)
    (I : Inv X pins σ H s) (r : Vals vs us) (h : sp (vs ++ dvs) H Q E) : wpAny (model X.prog X.w) X.A (call (.ref f) us) (EP X pins σ Q) X.xe s := by
  have r2 : Vals (vs ++ dvs) (us ++ ds) := r.append hd
  have hl : (us ++ ds).length = ps.length := by rw [← r2.length]; exact F.len _ _ _ _ h
  refine wpAny_call (codeAny_mono (F.run X.A X.stack s H ⟨us, []⟩ (us ++ ds) (vs ++ dvs) Q E hr I.env0 (hb s us I.kIn hl) r2 h) fun r s' hq => ?_)
  cases r with
  | error e => exact hx pins σ H s e s' I hq
  | ok fl =>
    cases fl with
    | ret u => exact I.after hq
    | next => exact False.elim hq
    | brk => exact False.elim hq
    | cont => exact False.elim hq

theorem pe_call (F : FnOk X.prog X.w X.K X.mg X.base CX k f fd ps sp) (hr : Room k X.A) (hg : Gl X x) (hm : X.mg x = some (.ref f)) (hk : PySem.W.keepIn X.K (.ref f) = true) (hb : Binds X.K fd ps ds) (hd : Vals dvs ds) (hx : Passes CX X E)
    (ha : PA X (e :: es) t) (hdb : (x == ("__debug__" : Str)) = false := by decide) (he : starEach (e :: es) X.env = (false, eval e X.env) :: starEach es X.env := by rfl) (hpl : (backTo pos (starEach es X.env)).any (·.1) = false := by rfl) :
    PE X (.Call (.Name x p) (e :: es) [] pos) (tCall sp dvs E t) := by
  intro pins s σ H Q I h
  refine wpAny_Call_Name_kw (ld_glob I hg hm ?_ hdb)
  refine PySem.W.callWith_K (h₀ := X.base) I.ok.mod.kin hk (thn (ha pos pins s σ H _ I h) fun us s1 ⟨vs, H1, I1, r, q⟩ => ⟨I1.kIn, ?_⟩) he hpl
  exact run_fn F hr hb hd hx I1 r q
theorem pe_call0 (F : FnOk X.prog X.w X.K X.mg X.base CX k f fd ps sp) (hr : Room k X.A) (hg : Gl X x) (hm : X.mg x = some (.ref f)) (hk : PySem.W.keepIn X.K (.ref f) = true) (hb : Binds X.K fd ps ds) (hd : Vals dvs ds) (hx : Passes CX X E)
    (hdb : (x == ("__debug__" : Str)) = false := by decide) : PE X (.Call (.Name x p) [] [] pos) (tCall sp dvs E tNil) := by
  intro pins s σ H Q I h
  refine wpAny_Call_Name_kw (ld_glob I hg hm ?_ hdb)
  exact PySem.W.callWith_K0 I.kIn hk (run_fn (us := []) F hr hb hd hx I .nil h)

/-- o.m(e, ..) -/
theorem pe_meth {pl : Sem Bool} (he : PE X o ta) (c : Cls X.K C) (hm : Meth X.K C m f) (F : FnOk X.prog X.w X.K X.mg X.base CX k f fd ps sp) (hr : Room k X.A) (hb : Binds X.K fd ps ds) (hd : Vals dvs ds) (hx : Passes CX X E) (ha : PA X (e :: es) t)
    (hst : starEach (e :: es) X.env = (false, eval e X.env) :: starEach es X.env := by rfl) (hpl : (backTo pos (starEach es X.env)).any (·.1) = false := by rfl)
    (ht : eval (.Call (.Attribute o m apos) (e :: es) [] pos) X.env = (do
      let ov ← eval o X.env
      standAt apos.atName
      let (f, first) ← holding [ov] (getMethod ov m pl)
      callWith pos f first (backTo pos (starEach (e :: es) X.env)) (backToKw pos (keywordEach [] X.env))) := by rfl) :
    PE X (.Call (.Attribute o m apos) (e :: es) [] pos) (tMeth C m sp dvs E ta t) := by
  intro pins s σ H Q I h
  refine PySem.W.methodCall_KW (pl := pl) (thn (he pins s σ H _ I h) fun u s1 ⟨x, H1, I1, rx, a, dx, fs, ex, ea, l, q⟩ => ?_) ht
  subst ex
  obtain rfl : u = Value.ref a := rx
  refine getmeth_ok I1 ea c hm l ?_
  refine PySem.W.callWith_K (first := [.ref a]) (h₀ := X.base) I.ok.mod.kin hm.kp (thn (ha pos pins s1 σ H1 _ I1 q) fun us s2 ⟨vs, H2, I2, r, q2⟩ => ⟨I2.kIn, ?_⟩) hst hpl
  exact run_fn (us := .ref a :: us) (vs := .ref a :: vs) F hr hb hd hx I2 (.cons rfl r) q2
/-- o.m() -/
theorem pe_meth0 {pl : Sem Bool} (he : PE X o ta) (c : Cls X.K C) (hm : Meth X.K C m f) (F : FnOk X.prog X.w X.K X.mg X.base CX k f fd ps sp) (hr : Room k X.A) (hb : Binds X.K fd ps ds) (hd : Vals dvs ds) (hx : Passes CX X E)
    (ht : eval (.Call (.Attribute o m apos) [] [] pos) X.env = (do
      let ov ← eval o X.env
      standAt apos.atName
      let (f, first) ← holding [ov] (getMethod ov m pl)
      callWith pos f first (backTo pos (starEach [] X.env)) (backToKw pos (keywordEach [] X.env))) := by rfl) :
    PE X (.Call (.Attribute o m apos) [] [] pos) (tMeth C m sp dvs E ta tNil) := by
  intro pins s σ H Q I h
  refine PySem.W.methodCall_KW (pl := pl) (thn (he pins s σ H _ I h) fun u s1 ⟨x, H1, I1, rx, a, dx, fs, ex, ea, l, q⟩ => ?_) ht
  subst ex
  obtain rfl : u = Value.ref a := rx
  refine getmeth_ok I1 ea c hm l ?_
  exact PySem.W.callWith_K0 (first := [.ref a]) I1.kIn hm.kp (run_fn (us := [.ref a]) (vs := [.ref a]) F hr hb hd hx I1 (.cons rfl .nil) q)

/-- what a class must have to be made -/
structure Mk (K : PySem.W.Frag) (C f : Addr) : Prop where
  makes : PySem.W.makesIn K C = true
  init : PySem.W.findIn K (.ref C) "__init__" = some (some (.ref f))
  fn : PySem.W.isFn K (.ref f) = true
  kp : PySem.W.keepIn K (.ref C) = true

theorem run_make {pins : List (Addr × Obj)} {σ : St} {H : Hp} {s : Shared} {Q : VK} {us : List Value} {vs : List V} (M : Mk X.K C f) (F : FnOk X.prog X.w X.K X.mg X.base CX k f fd ps sp) (hr : Room (k + 1) X.A) (hb : Binds X.K fd ps ds) (hd : Vals dvs ds)
    (hx : Passes CX X E) (I : Inv X pins σ H s) (r : Vals vs us)
    (h : ∀ x dx, H x = none → H dx = none → dx ≠ x → sp (.ref x :: (vs ++ dvs)) (upd (upd H dx (.own x)) x (.ins C dx [])) (fun v H2 => v = .non ∧ Q (.ref x) H2) E) :
    wpAny (model X.prog X.w) X.A (call (.ref C) us) (EP X pins σ Q) X.xe s := by
  have hq := h (s.heap.objs.size + 1) s.heap.objs.size (I.hok.fresh (Nat.le_succ _)) (I.hok.fresh (Nat.le_refl _)) (Nat.ne_of_lt (Nat.lt_succ_self _))
  have I2 := Inv.made (C := C) I
  have r2 : Vals (V.ref (s.heap.objs.size + 1) :: (vs ++ dvs)) (Value.ref (s.heap.objs.size + 1) :: (us ++ ds)) := .cons rfl (r.append hd)
  have hl : (Value.ref (s.heap.objs.size + 1) :: us ++ ds).length = ps.length := by
    have e := r2.length
    rw [F.len _ _ _ _ hq] at e
    exact e.symm
  refine wpAny_call (make_map (f := f) I.kIn M.makes M.init (beq_iff_eq.mp M.fn) (codeAny_mono (F.run _ X.stack _ _ ⟨Value.ref (s.heap.objs.size + 1) :: us, []⟩ (Value.ref (s.heap.objs.size + 1) :: (us ++ ds)) _ _ E (hr.make C us [])
    (I2.env0.make C us []) (hb _ (Value.ref (s.heap.objs.size + 1) :: us) I2.kIn hl) r2 hq) fun r s' hq' => ?_))
  cases r with
  | error e => exact hx pins σ _ _ e s' I2 hq'
  | ok fl =>
    cases fl with
    | ret u =>
      obtain ⟨v, H', I3, rv, ev, q3⟩ := I2.after hq'
      subst ev
      exact ⟨rv, ⟨V.ref (s.heap.objs.size + 1), H', I3, rfl, q3⟩⟩
    | next => exact False.elim hq'
    | brk => exact False.elim hq'
    | cont => exact False.elim hq'
theorem pe_make (M : Mk X.K C f) (F : FnOk X.prog X.w X.K X.mg X.base CX k f fd ps sp) (hr : Room (k + 1) X.A) (hg : Gl X x) (hm : X.mg x = some (.ref C)) (hb : Binds X.K fd ps ds) (hd : Vals dvs ds) (hx : Passes CX X E)
    (ha : PA X (e :: es) t) (hdb : (x == ("__debug__" : Str)) = false := by decide) (he : starEach (e :: es) X.env = (false, eval e X.env) :: starEach es X.env := by rfl) (hpl : (backTo pos (starEach es X.env)).any (·.1) = false := by rfl) :
    PE X (.Call (.Name x p) (e :: es) [] pos) (tMake C sp dvs E t) := by
  intro pins s σ H Q I h
  refine wpAny_Call_Name_kw (ld_glob I hg hm ?_ hdb)
  refine PySem.W.callWith_K (h₀ := X.base) I.ok.mod.kin M.kp (thn (ha pos pins s σ H _ I h) fun us s1 ⟨vs, H1, I1, r, q⟩ => ⟨I1.kIn, ?_⟩) he hpl
  exact run_make M F hr hb hd hx I1 r q
theorem pe_make0 (M : Mk X.K C f) (F : FnOk X.prog X.w X.K X.mg X.base CX k f fd ps sp) (hr : Room (k + 1) X.A) (hg : Gl X x) (hm : X.mg x = some (.ref C)) (hb : Binds X.K fd ps ds) (hd : Vals dvs ds) (hx : Passes CX X E)
    (hdb : (x == ("__debug__" : Str)) = false := by decide) : PE X (.Call (.Name x p) [] [] pos) (tMake C sp dvs E tNil) := by
  intro pins s σ H Q I h
  refine wpAny_Call_Name_kw (ld_glob I hg hm ?_ hdb)
  exact PySem.W.callWith_K0 I.kIn M.kp (run_make (us := []) M F hr hb hd hx I .nil h)
end

/-! ### keywords -/
/-- the values of the keywords, from the left -/
def PK (X : Cx) (kws : List Keyword) (t : TA) : Prop :=
  ∀ (pos : Pos) (pins : List (Addr × Obj)) (s : Shared) (σ : St) (H : Hp) (Q : List V → Hp → Prop), Inv X pins σ H s → t σ H Q → wpAny (model X.prog X.w) X.A (evalAll ((backToKw pos (keywordEach kws X.env)).map (·.2))) (AP X pins σ Q) X.xe s
section
variable {X : Cx} {CX : CXT} {k : Nat} {f C : Addr} {fd : FuncData} {ps ks : List Str} {sp : Sp} {E : XK} {x m : Str} {p pos apos kpos : Pos} {e o : Expr} {es : List Expr} {kws : List Keyword} {te ta : TE} {t tk : TA} {nm : Option Str}
theorem pk_nil : PK X [] tNil := fun _ _ _ _ H Q I h => wpAny_evalAll_nil ⟨[], H, I, .nil, h⟩
theorem pk_cons (ha : PE X e te) (hr : PK X kws t) : PK X (⟨nm, e, kpos⟩ :: kws) (tCons te t) := by
  intro pos pins s σ H Q I h
  show wpAny _ _ (evalAll ((do let v ← eval e X.env; standAt pos; pure v) :: (backToKw pos (keywordEach kws X.env)).map (·.2))) _ _ s
  refine wpAny_evalAll_cons (wpAny_bind (thn (ha pins s σ H _ I h) fun u s1 ⟨x, H1, I1, r1, q1⟩ => wpAny_bind (wpAny_standAt (wpAny_pure ?_))))
  exact thn (hr pos pins s1 σ H1 _ I1 q1) fun us s2 ⟨xs, H2, I2, r2, q2⟩ => ⟨x :: xs, H2, I2, .cons r1 r2, q2⟩

/-- how a call with keywords binds: g puts the positional values us and the keywords' values ws (names ks) in the parameters' order, defaults among them -/
structure KBinds (K : PySem.W.Frag) (fd : FuncData) (ps ks : List Str) (g : List Value → List Value → List Value) (gV : List V → List V → List V) : Prop where
  to : ∀ (s : Shared) (us ws : List Value), K.In s.heap → (g us ws).length = ps.length → BindsTo s fd ⟨us, ks.zip ws⟩ (ps.zip (g us ws))
  rel : ∀ {vs : List V} {us : List Value} {zs : List V} {ws : List Value}, Vals vs us → Vals zs ws → Vals (gV vs zs) (g us ws)
def tCallK (sp : Sp) (gV : List V → List V → List V) (E : XK) (t tk : TA) : TE := fun σ H Q => t σ H fun vs H1 => tk σ H1 fun zs H2 => sp (gV vs zs) H2 Q E
variable {g : List Value → List Value → List Value} {gV : List V → List V → List V}
theorem run_fnk {pins : List (Addr × Obj)} {σ : St} {H : Hp} {s : Shared} {Q : VK} {us ws : List Value} {vs zs : List V} (F : FnOk X.prog X.w X.K X.mg X.base CX k f fd ps sp) (hr : Room k X.A) (hb : KBinds X.K fd ps ks g gV) (hx : Passes CX X E)
    (I : Inv X pins σ H s) (r : Vals vs us) (rz : Vals zs ws) (h : sp (gV vs zs) H Q E) : wpAny (model X.prog X.w) X.A (call (.ref f) us (ks.zip ws)) (EP X pins σ Q) X.xe s := by
  have r2 := hb.rel r rz
  have hl : (g us ws).length = ps.length := by rw [← r2.length]; exact F.len _ _ _ _ h
  refine wpAny_call (codeAny_mono (F.run X.A X.stack s H ⟨us, ks.zip ws⟩ (g us ws) (gV vs zs) Q E hr I.env0 (hb.to s us ws I.kIn hl) r2 h) fun r s' hq => ?_)
  cases r with
  | error e => exact hx pins σ H s e s' I hq
  | ok fl =>
    cases fl with
    | ret u => exact I.after hq
    | next => exact False.elim hq
    | brk => exact False.elim hq
    | cont => exact False.elim hq
/-- f(e, .., k = v, ..) -/
theorem pe_callK (F : FnOk X.prog X.w X.K X.mg X.base CX k f fd ps sp) (hr : Room k X.A) (hg : Gl X x) (hm : X.mg x = some (.ref f)) (hk : PySem.W.keepIn X.K (.ref f) = true) (hb : KBinds X.K fd ps ks g gV) (hx : Passes CX X E)
    (ha : PA X (e :: es) t) (hkw : PK X kws tk) (hall : (backToKw pos (keywordEach kws X.env)).all (·.1.isSome) = true := by rfl) (hks : (backToKw pos (keywordEach kws X.env)).filterMap (·.1) = ks := by rfl)
    (hdb : (x == ("__debug__" : Str)) = false := by decide) (he : starEach (e :: es) X.env = (false, eval e X.env) :: starEach es X.env := by rfl)
    (hpl : ((backTo pos (starEach (e :: es) X.env)).any (·.1) || (backToKw pos (keywordEach kws X.env)).any (·.1.isNone)) = false := by rfl) :
    PE X (.Call (.Name x p) (e :: es) kws pos) (tCallK sp gV E t tk) := by
  intro pins s σ H Q I h
  refine wpAny_Call_Name_kw (ld_glob I hg hm ?_ hdb)
  refine PySem.W.callWith_KW (h₀ := X.base) I.ok.mod.kin hk hall (thn (ha pos pins s σ H _ I h) fun us s1 ⟨vs, H1, I1, r, q⟩ => ?_) hpl he
  refine thn (hkw pos pins s1 σ H1 _ I1 q) fun ws s2 ⟨zs, H2, I2, rz, q2⟩ => ⟨I2.kIn, ?_⟩
  rw [hks]
  exact run_fnk F hr hb hx I2 r rz q2
end

/-! ### a def's body keeps its promise -/
/-- names: the parameters first -/
structure FnScope (N P : List Str) (sc : Scope) : Prop where
  kind : sc.kind = .function
  co : sc.isCoroutine = false
  gen : sc.isGenerator = false
  nd : N.Nodup
  pre : N.take P.length = P
  par : ∀ x ∈ P, sc.names.lookup x = some .local ∨ sc.names.lookup x = some .cell
  nofree : ∀ y ∈ sc.names, y.2 ≠ .free

theorem bindL_out {kindOf : Str → Option NameKind} {x : Str} : ∀ {binds : List (Str × Value)} {m : Str → Option Value}, (∀ v, (x, v) ∉ binds) → bindL kindOf binds m x = m x
  | [], _, _ => rfl
  | (n, v) :: r, m, h => by
    unfold bindL
    rw [bindL_out fun w hw => h w (List.mem_cons_of_mem _ hw)]
    split
    · have : x ≠ n := by rintro rfl; exact h v List.mem_cons_self
      simp [this]
    · rfl
theorem bindC_out {kindOf : Str → Option NameKind} {x : Str} : ∀ {binds : List (Str × Value)} {m : Str → Option Value}, (∀ v, (x, v) ∉ binds) → bindC kindOf binds m x = m x
  | [], _, _ => rfl
  | (n, v) :: r, m, h => by
    unfold bindC
    rw [bindC_out fun w hw => h w (List.mem_cons_of_mem _ hw)]
    split
    · rfl
    · have : x ≠ n := by rintro rfl; exact h v List.mem_cons_self
      simp [this]
theorem bindL_get {kindOf : Str → Option NameKind} {x : Str} {v : Value} : ∀ {P : List Str} {vs : List Value} {i : Nat} {m : Str → Option Value}, P.Nodup → P[i]? = some x → vs[i]? = some v → kindOf x = some .local →
    bindL kindOf (P.zip vs) m x = some v
  | [], _, _, _, _, h, _, _ => by simp at h
  | _ :: _, [], _, _, _, _, h, _ => by simp at h
  | p :: P, w :: vs, 0, m, nd, h1, h2, hk => by
    simp at h1 h2; subst h1; subst h2
    show bindL kindOf ((p, w) :: P.zip vs) m p = _
    unfold bindL
    rw [bindL_out fun v hv => (List.nodup_cons.mp nd).1 (List.of_mem_zip hv).1, if_pos hk]
    simp
  | p :: P, w :: vs, i + 1, m, nd, h1, h2, hk => by
    show bindL kindOf ((p, w) :: P.zip vs) m x = _
    unfold bindL
    exact bindL_get (i := i) (List.nodup_cons.mp nd).2 (by simpa using h1) (by simpa using h2) hk
theorem bindC_get {kindOf : Str → Option NameKind} {x : Str} {v : Value} : ∀ {P : List Str} {vs : List Value} {i : Nat} {m : Str → Option Value}, P.Nodup → P[i]? = some x → vs[i]? = some v → kindOf x ≠ some .local →
    bindC kindOf (P.zip vs) m x = some v
  | [], _, _, _, _, h, _, _ => by simp at h
  | _ :: _, [], _, _, _, _, h, _ => by simp at h
  | p :: P, w :: vs, 0, m, nd, h1, h2, hk => by
    simp at h1 h2; subst h1; subst h2
    show bindC kindOf ((p, w) :: P.zip vs) m p = _
    unfold bindC
    rw [bindC_out fun v hv => (List.nodup_cons.mp nd).1 (List.of_mem_zip hv).1, if_neg hk]
    simp
  | p :: P, w :: vs, i + 1, m, nd, h1, h2, hk => by
    show bindC kindOf ((p, w) :: P.zip vs) m x = _
    unfold bindC
    exact bindC_get (i := i) (List.nodup_cons.mp nd).2 (by simpa using h1) (by simpa using h2) hk

/-- the names' values at the entry -/
def start (N : List Str) (vs : List V) : St := vs.map some ++ List.replicate (N.length - vs.length) none

/-- the context of a def's body, at its entry; an exception leaves the frame, then lies as CX says -/
def cxOf (CX : CXT) (P : Program) (w : World) (K : PySem.W.Frag) (mg : Str → Option Value) (base : Heap) (N : List Str) (qual : Str) (scope : Scope) (f : Addr) (cd : Value) (A : Around) (outer : List Env) (s : Shared) (H : Hp) (E : XK) : Cx where
  prog := P
  w := w
  K := K
  mg := mg
  base := base
  A := A.deeper (envOfC qual scope s.heap.objs.size f cd)
  N := N
  s₀ := s
  H₀ := H
  env := envOfC qual scope s.heap.objs.size f cd
  outer := outer
  stack := envOfC qual scope s.heap.objs.size f cd :: outer
  ex := []
  calm := true
  fn := fun _ => true
  pn := []
  xe := fun e s' => wpAny (model P w) (A.deeper (envOfC qual scope s.heap.objs.size f cd)) (leaving (envOfC qual scope s.heap.objs.size f cd) e) (fun _ s'' => CX outer H s E e s'') (fun e' s'' => CX outer H s E e' s'') s'

theorem cell_has {sc : Scope} {n : Nat} {x : Str} (h : sc.names.lookup x = some .cell) : ∃ c, (cellsFrom n sc.names []).lookup x = some c := by
  have q := PySem.W.cellsFrom_some sc.names n [] (.inl h)
  exact Option.isSome_iff_exists.mp q

theorem inv_start {CX : CXT} {P : Program} {w : World} {K : PySem.W.Frag} {mg : Str → Option Value} {base : Heap} {N ps : List Str} {qual : Str} {scope : Scope} {f : Addr} {cd : Value} {A : Around} {outer : List Env} {s s1 : Shared} {H : Hp} {E : XK} {us : List Value} {vs : List V}
    (S : FnScope N ps scope) (hd : A.handled = none) (e0 : Env0 P w K mg base A outer s H) (hl : vs.length = ps.length) (r : Vals vs us)
    (x : InCallC s s.heap.objs.size (bindL (envOfC qual scope s.heap.objs.size f cd).kindOf (ps.zip us) fun _ => none) (cellsFrom (s.heap.objs.size + 1) scope.names []) (bindC (envOfC qual scope s.heap.objs.size f cd).kindOf (ps.zip us) fun _ => none) s1) :
    Inv (cxOf CX P w K mg base N qual scope f cd A outer s H E) [] (start N vs) H s1 := by
  have hpl : ps.length ≤ N.length := by have := congrArg List.length S.pre; rw [List.length_take] at this; omega
  obtain ⟨h1, tk, rfl, hk⟩ := x.done
  have noA : ∀ b : Addr, b ∉ (cxOf CX P w K mg base N qual scope f cd A outer s H E).ex := fun b z => absurd (show b ∈ ([] : List Addr) from z) (by simp)
  refine ⟨⟨e0.mod, S.kind, rfl, rfl, Nat.le_refl _, fun y z c h1 h2 => ?_, fun y hy => ?_, fun y c _ h => ?_, fun _ => hd, Around.frames_deeper e0.frames, .inr ⟨rfl, rfl⟩, fun b z => absurd z (noA b), e0.bs, e0.bsz, fun b _ _ => noA b, fun b z => absurd z (noA b), e0.funs, e0.frf⟩,
    rfl, e0.bare, Un.kept hk, ⟨_, x.toInCall.ns, fun i y v h1 h2 h3 => ?_⟩, fun y c h => ⟨_, x.cell y c h⟩, e0.hok.fresh (Nat.le_refl _), fun y c h => ?_, fun p hp => absurd (show p ∈ ([] : List (Addr × Obj)) from hp) (by simp), e0.hok.kept hk, ?_⟩
  · exact name_of_addr x.apart (PySem.mem_of_lookup h1) (PySem.mem_of_lookup h2)
  · have hy : scope.names.lookup y = some .cell ∨ scope.names.lookup y = some .free := hy
    rcases hy with hy | hy
    · exact cell_has hy
    · exact absurd rfl (S.nofree _ (PySem.mem_of_lookup hy))
  · exact Nat.le_of_lt (x.above y c (PySem.mem_of_lookup h))
  · have hi : i < vs.length := by
      unfold start at h2
      by_cases hi : i < vs.length
      · exact hi
      · rw [List.getElem?_append_right (by simpa using hi)] at h2
        rw [List.getElem?_replicate] at h2
        split at h2 <;> cases h2
    have ha : vs[i]? = some v := by
      unfold start at h2
      rw [List.getElem?_append_left (by simpa using hi), List.getElem?_map] at h2
      cases e : vs[i]? with
      | none => rw [e] at h2; cases h2
      | some a => rw [e] at h2; cases h2; rfl
    obtain ⟨u, hu, rv⟩ := r.get ha
    have hp : ps[i]? = some y := by
      rw [← S.pre, List.getElem?_take_of_lt (by omega)]; exact h1
    have ndP : ps.Nodup := by rw [← S.pre]; exact S.nd.sublist (List.take_sublist _ _)
    refine ⟨u, rv, ?_⟩
    rcases S.par y (List.mem_of_getElem? hp) with k | k
    · exact .inl ⟨k, bindL_get ndP hp hu k⟩
    · obtain ⟨c, e⟩ := cell_has (n := s.heap.objs.size + 1) k
      refine .inr ⟨.inl k, c, e, ?_⟩
      have q := x.cell y c e
      rw [bindC_get ndP hp hu (by show scope.names.lookup y ≠ _; rw [k]; decide)] at q
      exact q
  · exact e0.hok.fresh (Nat.le_of_lt (x.above y c (PySem.mem_of_lookup h)))
  · unfold start
    show _ = N.length
    rw [List.length_append, List.length_map, List.length_replicate]
    omega

/-- THE RULE: a def (or a method) of the text, by its body. The body's reading t is chosen for each entry; it is run at the parameters' values -/
theorem fn_of {CX : CXT} {P : Program} {w : World} {K : PySem.W.Frag} {mg : Str → Option Value} {base : Heap} {k : Nat} {f : Addr} {name qual : Str} {params : Arguments} {body : List Stmt} {scope : Scope} {dV kV doc pm cdv ct oc : Value} {an od : Option Addr}
    {osl : Array (Option Value)} {N ps : List Str} {sp : Sp} (lk : K.lookup f = some ⟨oc, od, .func (PySem.W.fnOf name qual params body scope dV kV doc pm an cdv ct), osl⟩) (hcd : PySem.W.codeIn K cdv qual = true) (S : FnScope N ps scope)
    (len : ∀ vs H Q E, sp vs H Q E → vs.length = ps.length)
    (hbody : ∀ (A : Around) (outer : List Env) (s : Shared) (H : Hp) (vs : List V) (Q : VK) (E : XK), Room k (A.deeper (envOfC qual scope s.heap.objs.size f cdv)) → sp vs H Q E →
      ∃ t, PSs (cxOf CX P w K mg base N qual scope f cdv A outer s H E) body t ∧ t { nx := fun _ H' => Q .non H', rt := Q } (start N vs) H) :
    FnOk P w K mg base CX (k + 1) f (PySem.W.fnOf name qual params body scope dV kV doc pm an cdv ct) ps sp := by
  refine ⟨len, fun A outer s H args us vs Q E hr e0 hb r hsp => ?_⟩
  have hl := len _ _ _ _ hsp
  have KX : K.In s.heap := e0.mod.kin.keeps fun b o e => (e0.bs b o e).1
  have lim : s.heap.NoLimit := e0.mod.nolimit.keeps fun b o e => (e0.bs b o e).1
  have hkind : ∀ y ∈ ps.zip us, scope.names.lookup y.1 = some .local ∨ (scope.names.lookup y.1 = some .cell ∧ ((cellsFrom (s.heap.objs.size + 1) scope.names []).lookup y.1).isSome = true) := fun ⟨n, v⟩ hy => by
    rcases S.par n (List.of_mem_zip hy).1 with q | q
    · exact .inl q
    · exact .inr ⟨q, PySem.W.cellsFrom_some _ _ _ (.inl q)⟩
  refine codeAny_call_function hr.depth (KX _ _ lk) rfl S.co S.gen rfl (PySem.W.codeRec_of KX hcd) (hb _ _ _ _ ?_)
  refine wpAny_newFunctionEnv_cells S.kind hkind fun env he s1 x => ?_
  subst he
  refine ⟨lim.keeps x.toInCall.keep, codeAny_func ?_⟩
  obtain ⟨t, ht, hq⟩ := hbody A outer s H vs Q E (hr.deeper _) hsp
  have I : Inv (cxOf CX P w K mg base N qual scope f cdv A outer s H E) [] (start N vs) H s1 := inv_start S hr.hd e0 hl r x
  refine wpAny_mono (ht [] s1 (start N vs) H _ I hq) (fun fl s' hs => ?_) fun e s' hs => hs
  have fin : ∀ {σ' : St} {H' : Hp} {v : V} {u : Value}, Inv (cxOf CX P w K mg base N qual scope f cdv A outer s H E) [] σ' H' s' → RelV v u → Q v H' → CE outer P w H s Q u s' :=
    fun {σ' H' v u} J rv q => ⟨v, H', J.os, J.bare, J.base, J.hok, rv, q⟩
  cases fl with
  | ret u =>
    obtain ⟨v, σ', H', J, rv, q⟩ := hs
    exact fin J rv q
  | next =>
    obtain ⟨σ', H', J, q⟩ := hs
    exact fin (v := V.non) (u := Value.none) J rfl q
  | brk =>
    obtain ⟨_, _, _, q⟩ := hs
    exact False.elim q
  | cont =>
    obtain ⟨_, _, _, q⟩ := hs
    exact False.elim q
end L2

namespace L2
open PySem PySem.Spec PyProof.Rows
section
variable {X : Cx} {x : Str} {p pos : Pos} {e : Expr} {es : List Expr} {t : TA} {id T : String} {r : List V → Hp → VK → Prop}

def tCB (r : List V → Hp → VK → Prop) (t : TA) : TE := fun σ H Q => t σ H fun vs H1 => r vs H1 Q
/-- f(e, ..), f a built-in function -/
theorem pe_callB (hc : CallR X (.builtin id) r) (hg : Gl X x) (hm : X.mg x = none) (hv : bootBuiltins x = some (.builtin id)) (ha : PA X (e :: es) t) (hn : x ≠ "__name__" := by decide) (hdb : (x == ("__debug__" : Str)) = false := by decide)
    (he : starEach (e :: es) X.env = (false, eval e X.env) :: starEach es X.env := by rfl) (hpl : (backTo pos (starEach es X.env)).any (·.1) = false := by rfl) : PE X (.Call (.Name x p) (e :: es) [] pos) (tCB r t) := by
  intro pins s σ H Q I h
  refine wpAny_Call_Name_kw (ld_blt I hg hm hv ?_ hn hdb)
  exact PyProof.Rows.callWith_builtin1 (thn (ha pos pins s σ H _ I h) fun us s1 ⟨vs, H1, I1, r1, q1⟩ => hc pins s1 σ H1 vs us Q I1 r1 q1) he hpl
/-- T(e, ..), T a built-in type -/
theorem pe_callTy (hc : CallR X (.type T) r) (hg : Gl X x) (hm : X.mg x = none) (hv : bootBuiltins x = some (.type T)) (ha : PA X (e :: es) t) (hn : x ≠ "__name__" := by decide) (hdb : (x == ("__debug__" : Str)) = false := by decide)
    (he : starEach (e :: es) X.env = (false, eval e X.env) :: starEach es X.env := by rfl) (hpl : (backTo pos (starEach es X.env)).any (·.1) = false := by rfl) : PE X (.Call (.Name x p) (e :: es) [] pos) (tCB r t) := by
  intro pins s σ H Q I h
  refine wpAny_Call_Name_kw (ld_blt I hg hm hv ?_ hn hdb)
  exact PyProof.Rows.callWith_type1 (thn (ha pos pins s σ H _ I h) fun us s1 ⟨vs, H1, I1, r1, q1⟩ => hc pins s1 σ H1 vs us Q I1 r1 q1) he hpl
/-- T() -/
theorem pe_callTy0 (hc : CallR X (.type T) r) (hg : Gl X x) (hm : X.mg x = none) (hv : bootBuiltins x = some (.type T)) (hn : x ≠ "__name__" := by decide) (hdb : (x == ("__debug__" : Str)) = false := by decide) :
    PE X (.Call (.Name x p) [] [] pos) (tCB r tNil) := by
  intro pins s σ H Q I h
  refine wpAny_Call_Name_kw (ld_blt I hg hm hv ?_ hn hdb)
  exact PyProof.Rows.callWith_type0 (hc pins s σ H [] [] Q I .nil h)
end
end L2

namespace HT
open PySem PyProof.Rows

/-- t < u of tuples of ints -/
def lexLt : List Int → List Int → Bool
  | [], [] => false
  | [], _ :: _ => true
  | _ :: _, [] => false
  | x :: xs, y :: ys => if x = y then lexLt xs ys else decide (x < y)
theorem lexLt_cons (x y : Int) (xs ys : List Int) : lexLt (x :: xs) (y :: ys) = if x = y then lexLt xs ys else decide (x < y) := rfl
theorem lexLt_nil_nil : lexLt [] [] = false := rfl
theorem lexLt_nil_cons (y : Int) (ys : List Int) : lexLt [] (y :: ys) = true := rfl
theorem lexLt_cons_nil (x : Int) (xs : List Int) : lexLt (x :: xs) [] = false := rfl

theorem eqAt_int (A : Around) (s : Shared) (a : Int) (t : Tok) (c : Int) (u : Tok) : ∃ e, SeqAt.EqAt A s (.int a t) (.int c u) e ∧ (e = true ↔ a = c) :=
  ⟨(a == c), SeqAt.EqAt.int_int a t c u, by simp⟩
theorem rcLt_int (A : Around) (s : Shared) (a : Int) (t : Tok) (c : Int) (u : Tok) (prog : Program) (w : World) (E : Value → Shared → Prop) (Q : Value → Shared → Prop) (h : Q (.bool (decide (a < c))) s) :
    wpAny (model prog w) A (richCompare .Lt (.int a t) (.int c u)) Q E s :=
  (PyProof.Rows.lt_int h : wpAny (model prog w) A (compareOp .Lt (.int a t) (.int c u)) Q E s)

section
open PySem.SeqAt
open PySem.AutoSeq1 (wpAny_loadPart')
open PySem.MeetsSeq PySem.MeetsSeq2 PySem.MeetsSeq3

theorem tuple_lt_ints (l b : Addr) (items items2 : Array Value) (n n2 : Nat) (dd dd2 : Option Addr) (sl sl2 : Array (Option Value)) (ns ms : List Int) (hi : IntsAre items.toList ns) (hj : IntsAre items2.toList ms) :
    Meets (Builtin.«tuple.__lt__» ⟨[.ref l, .ref b], []⟩)
      (fun _ R s => s.heap.get? l = some { cls := .type "tuple", dict := dd, data := .seq items n, slots := sl } ∧ s.heap.get? b = some { cls := .type "tuple", dict := dd2, data := .seq items2 n2, slots := sl2 } ∧
        R (.ok (.ret (.bool (lexLt ns ms)))) s) :=
  .of_wp fun prog w A R s h => by
    obtain ⟨hp, g, d, tk, os⟩ := s; obtain ⟨hl, hb, h⟩ := h
    have f2 := AutoSeq1.sub_tuple_tuple
    have z1 : items.size = ns.length := by rw [← hi.length]; simp
    have z2 : items2.size = ms.length := by rw [← hj.length]; simp
    wp_walk using wpAny_loadPart' hl, wpAny_loadPart' hb, wpAny_forIn_list _ (fun rest b s' => b.1 = none ∧ s' = ⟨hp, g, d, tk, os⟩ ∧ ∃ (vs ws : List Value) (ns' ms' : List Int), rest = vs.zip ws ∧
      IntsAre vs ns' ∧ IntsAre ws ms' ∧ ns'.length + items2.size = ms'.length + items.size ∧ R (.ok (.ret (.bool (lexLt ns' ms')))) ⟨hp, g, d, tk, os⟩) _
    case turn =>
      rintro ⟨y, x⟩ rest b s' ⟨hb', rfl, vs, ws, ns', ms', hz, hvi, hwi, hlen, hR⟩
      cases hvi with
      | nil => rw [List.zip_nil_left] at hz; cases hz
      | cons a t hvi' =>
        cases hwi with
        | nil => rw [List.zip_nil_right] at hz; cases hz
        | cons c u hwi' =>
          rw [List.zip_cons_cons] at hz
          injection hz with hyx hrest
          injection hyx with hy hx
          subst hy hx
          rw [lexLt_cons] at hR
          simp only [List.length_cons] at hlen
          obtain ⟨e, he, hiff⟩ := eqAt_int A.in1 ⟨hp, g, d, tk, os⟩ a t c u
          refine wpAny_bind (he prog w _ _ ?_)
          cases e with
          | true =>
            rw [if_pos (hiff.mp rfl)] at hR
            wp_walk
            exact ⟨rfl, rfl, _, _, _, _, hrest, hvi', hwi', by omega, hR⟩
          | false =>
            rw [if_neg (fun q => absurd (hiff.mpr q) Bool.false_ne_true)] at hR
            have hri := rcLt_int A.in1 ⟨hp, g, d, tk, os⟩ a t c u prog w
            wp_walk using hri
            exact ⟨_, rfl, by simpa using hR⟩
    case fin =>
      rintro ⟨b1, b2⟩ s' ⟨hb', rfl, vs, ws, ns', ms', hz, hvi, hwi, hlen, hR⟩
      simp only at hb'
      subst hb'
      have hv : lexLt ns' ms' = decide (items.size < items2.size) := by
        cases hvi with
        | nil =>
          cases hwi with
          | nil =>
            simp only [List.length_nil] at hlen
            rw [lexLt_nil_nil]
            exact (decide_eq_false (by omega)).symm
          | cons c u hw =>
            simp only [List.length_nil, List.length_cons] at hlen
            rw [lexLt_nil_cons]
            exact (decide_eq_true (by omega)).symm
        | cons a t hv =>
          cases hwi with
          | nil =>
            simp only [List.length_nil, List.length_cons] at hlen
            rw [lexLt_cons_nil]
            exact (decide_eq_false (by omega)).symm
          | cons c u hw =>
            rw [List.zip_cons_cons] at hz
            cases hz
      rw [hv] at hR
      wp_walk
      exact ⟨_, rfl, by simpa [Builtin.Tuple.tupleCompareSizes] using hR⟩
    case h =>
      exact ⟨rfl, rfl, items.toList, items2.toList, ns, ms, rfl, hi, hj, by omega, h⟩
end

section
variable {prog : Program} {w : World} {A : Around} {E : Value → Shared → Prop} {s : Shared}

theorem lt_tupInts {l b : Addr} {items items2 : Array Value} {ns ms : List Int} {Q : Value → Shared → Prop} (hl : IsTup s.heap l items) (hb : IsTup s.heap b items2) (hi : IntsAre items.toList ns) (hj : IntsAre items2.toList ms)
    (hu : A.units < cLine) (h : Q (.bool (lexLt ns ms)) s) : wpAny (model prog w) A (compareOp .Lt (.ref l) (.ref b)) Q E s := by
  obtain ⟨⟨cls, dd, data, sl⟩, ho, hc, n, hd⟩ := id hl
  obtain ⟨⟨cls2, dd2, data2, sl2⟩, ho2, hc2, n2, hd2⟩ := id hb
  simp only at hc hd hc2 hd2
  subst hc hd hc2 hd2
  exact richCompare_meets_room (op := .Lt) ⟨_, ho, rfl⟩ ⟨_, ho2, rfl⟩ PySem.F.slot_tuple_lt PySem.F.entry_tuple_lt (PySem.F.args_tuple_lt_2 _ _) (tuple_lt_ints l b items items2 n n2 dd dd2 sl sl2 ns ms hi hj)
    ⟨ho, ho2, show Value.bool (lexLt ns ms) ≠ Value.notImplemented ∧ Q (.bool (lexLt ns ms)) s from ⟨(fun x => nomatch x), h⟩⟩ hu

/-- t + u, t not empty -/
theorem cat_tup {t b : Addr} {vs ws : List Value} {Q : Value → Shared → Prop} (ht : IsTup s.heap t vs.toArray) (hb : IsTup s.heap b ws.toArray) (hv : vs ≠ [])
    (h1 : ws = [] → Q (.ref t) s) (h2 : ws ≠ [] → Q (.ref s.heap.objs.size) { s with heap := s.heap.push { cls := .type "tuple", data := .seq (vs ++ ws).toArray } })
    (hsz : vs.length + ws.length ≤ sizeLine) : wpAny (model prog w) A (binaryOp .Add (.ref t) (.ref b)) Q E s := by
  obtain ⟨⟨cls, dd, data, sl⟩, ho, hc, n, hd⟩ := id ht
  obtain ⟨⟨cls2, dd2, data2, sl2⟩, ho2, hc2, n2, hd2⟩ := id hb
  simp only at hc hd hc2 hd2
  subst hc hd hc2 hd2
  have e : vs.toArray ++ ws.toArray = (vs ++ ws).toArray := by simp
  by_cases hw : ws = []
  · exact concat_meets ⟨_, ho, rfl⟩ ⟨_, ho2, rfl⟩ noFill_tuple_add seq_tuple_add PySem.F.slot_tuple_add PySem.F.entry_tuple_add (PySem.F.args_tuple_add_2 _ _)
      (tuple_addW1 t b vs.toArray ws.toArray n n2 dd dd2 sl sl2 (by simpa using hv) (by simp [hw])) ⟨ho, ho2, h1 hw⟩
  · refine concat_meets ⟨_, ho, rfl⟩ ⟨_, ho2, rfl⟩ noFill_tuple_add seq_tuple_add PySem.F.slot_tuple_add PySem.F.entry_tuple_add (PySem.F.args_tuple_add_2 _ _)
      (tuple_addW2 t b vs.toArray ws.toArray n n2 dd dd2 sl sl2 (by simpa using hv) (by simpa using hw) (by rw [List.size_toArray, List.size_toArray]; exact hsz)) ⟨ho, ho2, ?_⟩
    rw [e]
    exact h2 hw

/-! ### t[a:b], not the whole -/
/-- a slice's bound as a place among n (d where it is left out) -/
def sIx (n d : Nat) : Option Int → Nat
  | none => d
  | some v => if v < 0 then (v + (n : Int)).toNat else min v.toNat n
theorem sIx_none (n d : Nat) : sIx n d none = d := rfl
theorem sIx_nat (n d k : Nat) : sIx n d (some (k : Int)) = min k n := by
  show (if (k : Int) < 0 then ((k : Int) + (n : Int)).toNat else min (k : Int).toNat n) = min k n
  rw [if_neg (by omega), Int.toNat_natCast]
theorem sIx_le (n d : Nat) (hd : d ≤ n) (o : Option Int) : sIx n d o ≤ n := by
  cases o with
  | none => exact hd
  | some v =>
    show (if v < 0 then (v + (n : Int)).toNat else min v.toNat n) ≤ n
    by_cases hv : v < 0
    · rw [if_pos hv]; omega
    · rw [if_neg hv]; exact Nat.min_le_right _ _
theorem clip_eq (v : Int) (n d : Nat) : (if v < 0 then max (v + (n : Int)) 0 else min v (n : Int)) = ((sIx n d (some v) : Nat) : Int) := by
  show (if v < 0 then max (v + (n : Int)) 0 else min v (n : Int)) = (((if v < 0 then (v + (n : Int)).toNat else min v.toNat n) : Nat) : Int)
  by_cases hv : v < 0
  · simp only [if_pos hv]; omega
  · simp only [if_neg hv]; omega
theorem adjust_gen (lo hi : Option Int) (n : Nat) : Builtin.Slice.sliceAdjust lo hi 1 (n : Int) = (((sIx n 0 lo : Nat) : Int), ((sIx n n hi : Nat) : Int)) := by
  have h1 : ¬ ((1 : Int) < 0) := by omega
  unfold Builtin.Slice.sliceAdjust
  simp only [h1, if_false]
  refine Prod.ext ?_ ?_
  · cases lo with
    | none => rfl
    | some v => exact clip_eq v n 0
  · cases hi with
    | none => rfl
    | some v => exact clip_eq v n n
theorem places_gen (i j : Nat) : Builtin.Slice.slicePlaces (i : Int) (j : Int) 1 = j - i := by
  unfold Builtin.Slice.slicePlaces
  have h1 : (1 : Int) > 0 := by omega
  simp only [h1, if_true, Int.ediv_one]
  split <;> omega
theorem slicePart_ {v : Value} {o : Option Int} {Q : Option Int → Shared → Prop} (p : IsPart v o) (h : Q o s) : wpAny (model prog w) A (Builtin.Slice.slicePartIndex v) Q E s := by
  cases p with
  | none => exact slicePart_none h
  | int i t => exact slicePart_int h
theorem sliceApplied_gen {sl : Addr} {vl vu : Value} {lo hi : Option Int} {n : Nat} {Q : Int × Int × Nat → Shared → Prop} (hs : s.heap.IsSliceOf sl vl vu .none) (pl : IsPart vl lo) (pu : IsPart vu hi)
    (h : Q (((sIx n 0 lo : Nat) : Int), 1, sIx n n hi - sIx n 0 lo) s) : wpAny (model prog w) A (Builtin.Slice.sliceApplied (.ref sl) (pure (n : Int))) Q E s := by
  obtain ⟨os, hos, hcs, hds⟩ := id hs
  unfold Builtin.Slice.sliceApplied Builtin.Slice.sliceFields
  refine wpAny_bind (wpAny_bind (wpAny_field hos hds (x := vl) rfl (wpAny_bind (wpAny_field hos hds (x := vu) rfl (wpAny_bind (wpAny_field hos hds (x := .none) rfl (wpAny_pure ?_)))))))
  refine wpAny_bind (slicePart_none ?_)
  show wpAny _ _ (if ((1 : Int) == 0) = true then _ else _) _ _ s
  rw [if_neg (by decide)]
  refine wpAny_bind (slicePart_ pl (wpAny_bind (slicePart_ pu (wpAny_bind (wpAny_pure ?_)))))
  show wpAny _ _ (match Builtin.Slice.sliceAdjust lo hi 1 (n : Int) with | (lo, hi) => pure (lo, (1 : Int), Builtin.Slice.slicePlaces lo hi 1)) _ _ s
  rw [adjust_gen lo hi n]
  show wpAny _ _ (pure (((sIx n 0 lo : Nat) : Int), (1 : Int), Builtin.Slice.slicePlaces ((sIx n 0 lo : Nat) : Int) ((sIx n n hi : Nat) : Int) 1)) _ _ s
  rw [places_gen]
  exact wpAny_pure h
theorem pick_gen (xs : Array Value) (i k : Nat) : ((List.range k).filterMap fun (m : Nat) => xs[((i : Int) + (m : Int) * 1).toNat]?).toArray = ((xs.toList.drop i).take k).toArray := by
  have e : (fun (m : Nat) => xs[((i : Int) + (m : Int) * 1).toNat]?) = fun m => xs[i + m]? := by
    funext m
    have : ((i : Int) + (m : Int) * 1).toNat = i + m := by omega
    rw [this]
  rw [e]
  have := pick_run xs i k
  rw [List.filterMap_map] at this
  have e2 : ((fun x => xs[x]?) ∘ fun x => i + x) = fun m => xs[i + m]? := rfl
  rw [e2] at this
  rw [this]

theorem getItem_tuple_cut {t sl : Addr} {items : Array Value} {vl vu : Value} {lo hi : Option Int} {Q : Value → Shared → Prop} (ht : IsTup s.heap t items) (hs : s.heap.IsSliceOf sl vl vu .none) (pl : IsPart vl lo) (pu : IsPart vu hi)
    (hw : ¬ (sIx items.size 0 lo = 0 ∧ sIx items.size items.size hi = items.size))
    (h : Q (.ref s.heap.objs.size) { s with heap := s.heap.push { cls := .type "tuple", data := .seq ((items.toList.drop (sIx items.size 0 lo)).take (sIx items.size items.size hi - sIx items.size 0 lo)).toArray } })
    (hsz : items.size ≤ sizeLine) : wpAny (model prog w) A (getItem (.ref t) (.ref sl)) Q E s := by
  have htake : sizeOk (.seq ((items.toList.drop (sIx items.size 0 lo)).take (sIx items.size items.size hi - sIx items.size 0 lo)).toArray) := by
    show ((items.toList.drop (sIx items.size 0 lo)).take (sIx items.size items.size hi - sIx items.size 0 lo)).toArray.size ≤ sizeLine
    rw [List.size_toArray, List.length_take, List.length_drop, Array.length_toList]
    omega
  have hj : sIx items.size items.size hi ≤ items.size := sIx_le _ _ (Nat.le_refl _) hi
  obtain ⟨os, hos, hcs, hds⟩ := id hs
  have hTs : s.TypeIs (.ref sl) "slice" := ⟨os, hos, hcs⟩
  unfold getItem
  try with_reducible refine wpAny_holding ?_
  first | refine wpAny_bind (wpAny_pure ?_) | skip
  refine wpAny_bind (wpAny_sequenceKey ht.typeIs (by decide) ?_)
  refine wpAny_bind (wpAny_callSpecial?_slot (name := Str.ofString "__getitem__") ht.typeIs PyProof.Rows.slot_tuple_getitem
    (wpAny_call_entry PyProof.Rows.slot_tuple_getitem ht.typeIs entry_tuple_getitem ?_ (args_tuple_getitem _ _)))
  show wpAny _ _ (Builtin.Tuple.tupleItemsOf (.ref t) >>= _) _ _ s
  refine wpAny_bind (tupleItemsOf_ ht ?_)
  refine wpAny_bind (wpAny_typeOf hTs ?_)
  rw [if_pos (by decide)]
  refine wpAny_bind (sliceApplied_gen hs pl pu ?_)
  have hno : ¬ ((((sIx items.size 0 lo : Nat) : Int) == 0 && (1 : Int) == 1 && (sIx items.size items.size hi - sIx items.size 0 lo) == items.size) = true) := by
    intro q
    rw [Bool.and_eq_true, Bool.and_eq_true] at q
    have q1 : ((sIx items.size 0 lo : Nat) : Int) = 0 := eq_of_beq q.1.1
    have q2 : sIx items.size items.size hi - sIx items.size 0 lo = items.size := eq_of_beq q.2
    exact hw ⟨by omega, by omega⟩
  show wpAny _ _ (if (((sIx items.size 0 lo : Nat) : Int) == 0 && (1 : Int) == 1 && (sIx items.size items.size hi - sIx items.size 0 lo) == items.size) = true then _ else _) _ _ s
  rw [if_neg hno, pick_gen]
  first
    | exact wpAny_bind (m := Builtin.Tuple.tupleExact _) (wpAny_newObj_type (wpAny_pure ⟨_, rfl, wpAny_pure h⟩) htake)
    | exact wpAny_bind (m := Builtin.Tuple.tupleExact _) (wpAny_newObj_type (wpAny_bind (wpAny_pure (wpAny_pure ⟨_, rfl, wpAny_pure h⟩))) htake)
    | exact wpAny_bind (wpAny_bind (m := Builtin.Tuple.tupleExact _) (wpAny_newObj_type (wpAny_pure (wpAny_pure ⟨_, rfl, wpAny_pure h⟩)) htake))
    | exact wpAny_bind (wpAny_bind (m := Builtin.Tuple.tupleExact _) (wpAny_newObj_type (wpAny_pure ⟨_, rfl, wpAny_pure h⟩) htake))
end
end HT

namespace L2
open PySem PySem.Spec PyProof.Rows

/-! ### the parts of a slice -/
abbrev TO := St → Hp → (Option Int → Hp → Prop) → Prop
/-- a slice's part (left out, or an int) -/
def PO (X : Cx) (e : Option Expr) (t : TO) : Prop :=
  ∀ (pins : List (Addr × Obj)) (s : Shared) (σ : St) (H : Hp) (Q : Option Int → Hp → Prop), Inv X pins σ H s → t σ H Q →
    wpAny (model X.prog X.w) X.A (evalPart e X.env) (fun u s' => ∃ o H', Inv X pins σ H' s' ∧ IsPart u o ∧ Q o H') X.xe s
def tNoPart : TO := fun _ H Q => Q none H
def tPart (t : TE) : TO := fun σ H Q => t σ H fun x H1 => ∃ i, x = .int i ∧ Q (some i) H1

theorem intsAre_of {ns : List Int} : ∀ {us : List Value}, Vals (ns.map V.int) us → IntsAre us ns := by
  induction ns with
  | nil => intro us r; rw [List.map_nil] at r; cases r; exact .nil
  | cons n ns ih =>
    intro us r
    rw [List.map_cons] at r
    cases r with
    | cons r1 r2 =>
      obtain ⟨t, e⟩ := r1
      subst e
      exact .cons n t (ih r2)

section
variable {X : Cx} {e : Expr} {te : TE} {lo hi : Option Expr} {tl th : TO} {pos p2 : Pos}

theorem po_none : PO X none tNoPart := by
  intro pins s σ H Q I h
  rw [evalPart_none]
  exact wpAny_pure ⟨none, H, I, .none, h⟩
theorem po_some (h : PE X e te) : PO X (some e) (tPart te) := by
  intro pins s σ H Q I hw
  rw [evalPart_some]
  refine thn (h pins s σ H _ I hw) fun u s1 ⟨x, H1, I1, r1, q1⟩ => ?_
  obtain ⟨i, rfl, q⟩ := q1
  obtain ⟨t, rfl⟩ := r1
  exact ⟨some i, H1, I1, .int i t, q⟩

/-- what a slice of a value is, by values: the slice object stands at sl -/
def SlR (X : Cx) (r : V → Option Int → Option Int → Hp → VK → Prop) : Prop :=
  ∀ (pins : List (Addr × Obj)) (s : Shared) (σ : St) (H : Hp) (x : V) (v vl vu : Value) (lo hi : Option Int) (sl : Addr) (Q : VK), Inv X pins σ H s → RelV x v → s.heap.IsSliceOf sl vl vu .none → IsPart vl lo → IsPart vu hi → r x lo hi H Q →
    ∃ T id, typeLookup (.type T) "__getitem__" = pure (some (.builtin id)) ∧ s.TypeIs v T ∧ wpAny (model X.prog X.w) X.A (getItem v (.ref sl)) (EP X pins σ Q) X.xe s
theorem SlR.or {r r' : V → Option Int → Option Int → Hp → VK → Prop} (h : SlR X r) (h' : SlR X r') : SlR X (fun x lo hi H Q => r x lo hi H Q ∨ r' x lo hi H Q) := by
  intro pins s σ H x v vl vu lo hi sl Q I rx hs pl pu q
  rcases q with q | q
  · exact h pins s σ H x v vl vu lo hi sl Q I rx hs pl pu q
  · exact h' pins s σ H x v vl vu lo hi sl Q I rx hs pl pu q
def tSl (r : V → Option Int → Option Int → Hp → VK → Prop) (te : TE) (tl th : TO) : TE := fun σ H Q => te σ H fun x H1 => tl σ H1 fun l H2 => th σ H2 fun u H3 => r x l u H3 Q
/-- a[lo:hi], any a -/
theorem pe_slice {r : V → Option Int → Option Int → Hp → VK → Prop} (hr : SlR X r) (he : PE X e te) (hl : PO X lo tl) (hu : PO X hi th) : PE X (.Subscript e (.Slice lo hi none p2) pos) (tSl r te tl th) := by
  intro pins s σ H Q I h
  refine Subscript_ (thn (he pins s σ H _ I h) fun v s1 ⟨x, H1, I1, r1, q1⟩ => ?_)
  refine wpAny_Slice (thn (hl pins s1 σ H1 _ I1 q1) fun vl s2 ⟨l, H2, I2, pl, q2⟩ => thn (hu pins s2 σ H2 _ I2 q2) fun vu s3 ⟨u, H3, I3, pu, q3⟩ => ?_)
  rw [evalPart_none]
  refine wpAny_pure ?_
  have I4 : Inv X pins σ H3 { s3 with heap := s3.heap.push { cls := .type "slice", data := .fields #[vl, vu, .none] } } := I3.kept (t' := s3.toks) fun b ob q => Heap.get?_push_of_some _ q
  obtain ⟨T, id, hT, ht, hg⟩ := hr pins { s3 with heap := s3.heap.push { cls := .type "slice", data := .fields #[vl, vu, .none] } } σ H3 x v vl vu l u s3.heap.objs.size Q I4 r1 (Heap.IsSliceOf.new ..) pl pu q3
  show wpAny (model X.prog X.w) X.A (subscriptTail e (.Slice lo hi none p2) v (.ref s3.heap.objs.size)) (EP X pins σ Q) X.xe { s3 with heap := s3.heap.push { cls := .type "slice", data := .fields #[vl, vu, .none] } }
  exact tail_any (ops := [.ref s3.heap.objs.size, v]) ht hT hg (by with_unfolding_all rfl)

/-- the items of xs[lo:hi] -/
def cutV (xs : List V) (lo hi : Option Int) : List V := (xs.drop (HT.sIx xs.length 0 lo)).take (HT.sIx xs.length xs.length hi - HT.sIx xs.length 0 lo)
theorem cutV_length (xs : List V) (lo hi : Option Int) : (cutV xs lo hi).length ≤ xs.length := by
  unfold cutV
  rw [List.length_take, List.length_drop]
  omega
/-- t[lo:hi], not the whole of it (the whole would be t itself) -/
def rSlT (K : PySem.W.Frag) : V → Option Int → Option Int → Hp → VK → Prop := fun x lo hi H Q => ∃ a xs, x = .ref a ∧ SqT K H a xs ∧
  ¬ (HT.sIx xs.length 0 lo = 0 ∧ HT.sIx xs.length xs.length hi = xs.length) ∧ ∀ p, H p = none → Q (.ref p) (upd H p (.tup (cutV xs lo hi)))
theorem sl_tup : SlR X (rSlT X.K) := by
  intro pins s σ H x v vl vu lo hi sl Q I rx hs pl pu h
  obtain ⟨a, xs, rfl, hx, hw, q⟩ := h
  cases rx
  obtain ⟨its, r, ht, hz⟩ := I.tuple hx
  have hlen : its.toArray.size = xs.length := by rw [List.size_toArray]; exact r.length.symm
  refine ⟨"tuple", _, PyProof.Rows.slot_tuple_getitem.lookup, ht.typeIs, ?_⟩
  refine HT.getItem_tuple_cut ht hs pl pu (by rw [hlen]; exact hw) ?_ (by rw [hlen]; exact hz)
  rw [hlen]
  refine ⟨.ref s.heap.objs.size, _, I.laid (t' := s.toks) (o := .tup (cutV xs lo hi)) (fun b ob q => Heap.get?_push_of_some _ q) (Nat.le_refl _) ?_, rfl, q _ (I.hok.fresh (Nat.le_refl _))⟩
  exact ⟨Nat.le_trans (cutV_length xs lo hi) hz, _, (r.drop (HT.sIx xs.length 0 lo)).take (HT.sIx xs.length xs.length hi - HT.sIx xs.length 0 lo), IsTup.new _ _⟩

/-! ### t < u, t + u -/
def rLtT (K : PySem.W.Frag) : R2 := fun x y H Q => ∃ a b ns ms, x = .ref a ∧ y = .ref b ∧ SqT K H a (ns.map V.int) ∧ SqT K H b (ms.map V.int) ∧ Q (.bl (HT.lexLt ns ms)) H
theorem op_ltT (hu : X.A.units < cLine) : OpR X (compareOp .Lt) (rLtT X.K) := by
  intro pins s σ H x y v u Q I rx ry h
  obtain ⟨a, b, ns, ms, rfl, rfl, ha, hb, q⟩ := h
  cases rx
  cases ry
  obtain ⟨its, r1, p1, _⟩ := I.tuple ha
  obtain ⟨its2, r2, p2, _⟩ := I.tuple hb
  have i1 : IntsAre its.toArray.toList ns := intsAre_of r1
  have i2 : IntsAre its2.toArray.toList ms := intsAre_of r2
  exact HT.lt_tupInts p1 p2 i1 i2 hu ⟨.bl (HT.lexLt ns ms), H, I, rfl, q⟩
/-- t + u, t not empty: u empty gives t itself -/
def rCatT (K : PySem.W.Frag) : R2 := fun x y H Q => ∃ a b xs ys, x = .ref a ∧ y = .ref b ∧ SqT K H a xs ∧ SqT K H b ys ∧ xs ≠ [] ∧ xs.length + ys.length ≤ sizeLine ∧
  (ys = [] → Q (.ref a) H) ∧ (ys ≠ [] → ∀ p, H p = none → Q (.ref p) (upd H p (.tup (xs ++ ys))))
theorem Vals.nil_iff {xs : List V} {us : List Value} (r : Vals xs us) : us = [] ↔ xs = [] := by
  cases r with
  | nil => simp
  | cons _ _ => simp
theorem op_catT : OpR X (binaryOp .Add) (rCatT X.K) := by
  intro pins s σ H x y v u Q I rx ry h
  obtain ⟨a, b, xs, ys, rfl, rfl, ha, hb, hx, hz, q1, q2⟩ := h
  cases rx
  cases ry
  obtain ⟨its, r1, p1, _⟩ := I.tuple ha
  obtain ⟨its2, r2, p2, _⟩ := I.tuple hb
  refine HT.cat_tup p1 p2 (fun z => hx (r1.nil_iff.mp z)) (fun z => ⟨.ref a, H, I, rfl, q1 (r2.nil_iff.mp z)⟩) (fun z => ?_) (by rw [← r1.length, ← r2.length]; exact hz)
  refine ⟨.ref s.heap.objs.size, _, I.laid (t' := s.toks) (o := .tup (xs ++ ys)) (fun b ob q => Heap.get?_push_of_some _ q) (Nat.le_refl _) ?_, rfl, q2 (fun w => z (r2.nil_iff.mpr w)) _ (I.hok.fresh (Nat.le_refl _))⟩
  exact ⟨by rw [List.length_append]; exact hz, _, r1.append r2, IsTup.new _ _⟩
/-- tuple(t) -/
theorem call_tupleT : CallR X (.type "tuple") (fun xs H Q => ∃ a ys, xs = [.ref a] ∧ SqT X.K H a ys ∧ Q (.ref a) H) := by
  intro pins s σ H xs us Q I r h
  obtain ⟨a, ys, rfl, ha, q⟩ := h
  obtain ⟨u, rfl, ru⟩ := vals1 r
  cases ru
  obtain ⟨its, _, p1, _⟩ := I.tuple ha
  exact call_tuple_same (items := its.toArray) p1 ⟨.ref a, H, I, rfl, q⟩
end
end L2

namespace L2
open PySem PySem.Spec PyProof.Rows

/-! ### places -/
/-- the place that an index of any sign means -/
def ixN (n : Nat) (i : Int) : Option Nat := if 0 ≤ i then (if i < n then some i.toNat else none) else if -(n : Int) ≤ i then some (i + n).toNat else none
def atI {α : Type} (xs : List α) (i : Int) : Option α := (ixN xs.length i).bind fun j => xs[j]?
theorem ixN_seq {n : Nat} {i : Int} {j : Nat} (h : ixN n i = some j) : seqIndex? i n = some j ∧ j < n ∧ -(n : Int) ≤ i ∧ i < n := by
  unfold ixN at h
  by_cases h0 : 0 ≤ i
  · rw [if_pos h0] at h
    by_cases h1 : i < n
    · rw [if_pos h1] at h
      have e : i.toNat = j := Option.some.inj h
      exact ⟨by rw [seqIndex_of h0 h1, e], by omega, by omega, h1⟩
    · rw [if_neg h1] at h; cases h
  · rw [if_neg h0] at h
    by_cases h1 : -(n : Int) ≤ i
    · rw [if_pos h1] at h
      have e : (i + n).toNat = j := Option.some.inj h
      exact ⟨by rw [seqIndex_neg (by omega) h1, e], by omega, h1, by omega⟩
    · rw [if_neg h1] at h; cases h
theorem atI_get {α : Type} {xs : List α} {i : Int} {v : α} (h : atI xs i = some v) : ∃ j, seqIndex? i xs.length = some j ∧ xs[j]? = some v ∧ j < xs.length ∧ -(xs.length : Int) ≤ i ∧ i < xs.length := by
  unfold atI at h
  cases e : ixN xs.length i with
  | none => rw [e] at h; cases h
  | some j =>
    rw [e] at h
    obtain ⟨h1, h2, h3, h4⟩ := ixN_seq e
    exact ⟨j, h1, h, h2, h3, h4⟩
theorem atI_nat {α : Type} {xs : List α} {j : Nat} {v : α} (h : xs[j]? = some v) : atI xs (j : Int) = some v := by
  have hj : j < xs.length := (List.getElem?_eq_some_iff.mp h).1
  have e : ixN xs.length (j : Int) = some j := by
    unfold ixN
    rw [if_pos (by omega), if_pos (by omega)]; simp
  unfold atI; rw [e]; exact h
theorem atI_last {α : Type} (xs : List α) (v : α) : atI (xs ++ [v]) (-1) = some v := by
  have hl : (xs ++ [v]).length = xs.length + 1 := by simp
  have e : ixN (xs ++ [v]).length (-1) = some xs.length := by
    unfold ixN
    rw [hl, if_neg (by decide), if_pos (by omega)]
    congr 1
    omega
  unfold atI
  rw [e]
  show (xs ++ [v])[xs.length]? = some v
  simp

/-! ### what may be subscripted -/
/-- what stands as an index of a plain subscript -/
def PlainIx (b : Expr) : Prop := ∀ o i, subscripted b false o i = operate [o, i] (getItem o i)
/-- a subscript by values -/
def IxR (X : Cx) (r : R2) : Prop :=
  ∀ (value slice : Expr) (pins : List (Addr × Obj)) (s : Shared) (σ : St) (H : Hp) (x y : V) (v u : Value) (Q : VK), Inv X pins σ H s → RelV x v → RelV y u → r x y H Q →
    subscripted slice false v u = operate [v, u] (getItem v u) → wpAny (model X.prog X.w) X.A (subscriptTail value slice v u) (EP X pins σ Q) X.xe s
/-- a call of a builtin's method by values: the receiver, the arguments -/
def MtR (X : Cx) (id : String) (r : V → List V → Hp → VK → Prop) : Prop :=
  ∀ (pins : List (Addr × Obj)) (s : Shared) (σ : St) (H : Hp) (x : V) (xs : List V) (v : Value) (us : List Value) (Q : VK), Inv X pins σ H s → RelV x v → Vals xs us → r x xs H Q →
    wpAny (model X.prog X.w) X.A (call (.builtin id) (v :: us)) (EP X pins σ Q) X.xe s
section
variable {X : Cx} {a b : Expr} {ta tb : TE} {pos : Pos}
theorem IxR.or {r r' : R2} (h : IxR X r) (h' : IxR X r') : IxR X (fun x y H Q => r x y H Q ∨ r' x y H Q) := by
  intro value slice pins s σ H x y v u Q I rx ry q hs
  rcases q with q | q
  · exact h value slice pins s σ H x y v u Q I rx ry q hs
  · exact h' value slice pins s σ H x y v u Q I rx ry q hs
theorem MtR.or {id : String} {r r' : V → List V → Hp → VK → Prop} (h : MtR X id r) (h' : MtR X id r') : MtR X id (fun x xs H Q => r x xs H Q ∨ r' x xs H Q) := by
  intro pins s σ H x xs v us Q I rx rs q
  rcases q with q | q
  · exact h pins s σ H x xs v us Q I rx rs q
  · exact h' pins s σ H x xs v us Q I rx rs q
/-- a[b] -/
theorem pe_ix {r : R2} (hr : IxR X r) (ha : PE X a ta) (hb : PE X b tb) (hs : PlainIx b) : PE X (.Subscript a b pos) (tOp r ta tb) := by
  intro pins s σ H Q I h
  exact Subscript_ (binT ha hb I h fun v u s2 x y H2 I2 rx ry q => hr a b pins s2 σ H2 x y v u Q I2 rx ry q (hs _ _))

def rIxL (K : PySem.W.Frag) : R2 := fun x y H Q => ∃ p xs i v, x = .ref p ∧ y = .int i ∧ SqL K H p xs ∧ atI xs i = some v ∧ Q v H
def rIxT (K : PySem.W.Frag) : R2 := fun x y H Q => ∃ p xs i v, x = .ref p ∧ y = .int i ∧ SqT K H p xs ∧ atI xs i = some v ∧ Q v H
def rIxS : R2 := fun x y H Q => ∃ z i c, x = .str z ∧ y = .int i ∧ z.length ≤ sizeLine ∧ atI z.cps.toList i = some c ∧ Q (.str ⟨#[c]⟩) H
theorem ix_list : IxR X (rIxL X.K) := by
  intro value slice pins s σ H x y v u Q I rx ry h hs
  obtain ⟨p, xs, i, z, rfl, rfl, hq, he, q⟩ := h
  cases rx
  obtain ⟨t, rfl⟩ := ry
  obtain ⟨its, r, pl, hz⟩ := I.list hq
  obtain ⟨j, h1, h2, h3, h4, h5⟩ := atI_get he
  obtain ⟨w, ew, rw'⟩ := r.get h2
  have hl := r.length
  have hn := line63
  have fin : EP X pins σ Q w s := ⟨z, H, I, rw', q⟩
  by_cases h0 : 0 ≤ i
  · have hj : i.toNat = j := by
      rw [seqIndex_of h0 h5] at h1
      exact Option.some.inj h1
    exact item_listR pl.isList h0 (by omega) (by rw [hj]; simpa using ew) fin hs
  · have hj : (i + (its.toArray.size : Int)).toNat = j := by
      rw [seqIndex_neg (by omega) h4] at h1
      rw [List.size_toArray, ← hl]
      exact Option.some.inj h1
    exact subscriptTail_builtinR (x := w) pl.isList.typeIs slot_list_getitem.lookup
      (wpAny_getItem_list_neg (Q := fun r s' => r = w ∧ EP X pins σ Q r s') pl.isList (by omega) (by rw [List.size_toArray] <;> omega) (by omega) (by rw [hj]; simpa using ew) ⟨rfl, fin⟩) hs
theorem ix_tup : IxR X (rIxT X.K) := by
  intro value slice pins s σ H x y v u Q I rx ry h hs
  obtain ⟨p, xs, i, z, rfl, rfl, hq, he, q⟩ := h
  cases rx
  obtain ⟨t, rfl⟩ := ry
  obtain ⟨its, r, pl, hz⟩ := I.tuple hq
  obtain ⟨j, h1, h2, h3, h4, h5⟩ := atI_get he
  obtain ⟨w, ew, rw'⟩ := r.get h2
  have hl := r.length
  have hn := line63
  have fin : EP X pins σ Q w s := ⟨z, H, I, rw', q⟩
  exact subscriptTail_builtinR (x := w) pl.typeIs slot_tuple_getitem.lookup
    (getItem_tuple (j := j) (Q := fun r s' => r = w ∧ EP X pins σ Q r s') pl (by omega) (by omega) (by rw [List.size_toArray, ← hl]; exact h1) (by simpa using ew) ⟨rfl, fin⟩) hs
theorem ix_str : IxR X rIxS := by
  intro value slice pins s σ H x y v u Q I rx ry h hs
  obtain ⟨z, i, c, rfl, rfl, hz, he, q⟩ := h
  obtain ⟨t, rfl⟩ := rx
  obtain ⟨t', rfl⟩ := ry
  obtain ⟨j, h1, h2, h3, h4, h5⟩ := atI_get he
  have hl : z.cps.toList.length = z.length := by simp [Str.length]
  rw [hl] at h1 h4 h5
  have hn := line63
  exact tail_any (typeIs_str s z t) slot_str_getitem.lookup (getItem_str (c := c) (by
    have e1 : decide (i < -(2 ^ 63 : Int)) = false := decide_eq_false (by omega)
    have e2 : decide (i ≥ 2 ^ 63) = false := decide_eq_false (by omega)
    rw [e1, e2, Bool.or_false]) (by rw [h1]; simpa using h2) ⟨.str ⟨#[c]⟩, H, I.tok _, ⟨_, rfl⟩, q⟩) hs
/-- list, tuple or str -/
def rIx (K : PySem.W.Frag) : R2 := fun x y H Q => rIxL K x y H Q ∨ rIxT K x y H Q ∨ rIxS x y H Q
theorem ix_seq : IxR X (rIx X.K) := ix_list.or (ix_tup.or ix_str)

/-! ### xs[i] = v, any sign -/
/-- the list's object behind a store -/
theorem mapSeq_set (its : List Value) (n j : Nat) (u : Value) : Obj.mapSeq (·.setIfInBounds j u) { cls := .type "list", data := .seq its.toArray n } = { cls := .type "list", data := .seq (its.set j u).toArray n } := by
  simp [Obj.mapSeq]
theorem Inv.lst {pins : List (Addr × Obj)} {σ : St} {H : Hp} {s : Shared} {p : Addr} {xs : List V} (I : Inv X pins σ H s) (h : H p = some (.lst xs)) :
    ∃ (its : List Value) (n : Nat), Vals xs its ∧ s.heap.get? p = some { cls := .type "list", data := .seq its.toArray n } ∧ xs.length ≤ sizeLine := by
  obtain ⟨z, its, n, r, e⟩ := I.hok p _ h
  exact ⟨its, n, r, e, z⟩
/-- the list at p is written by an update of its object -/
theorem Inv.lstUpd {pins : List (Addr × Obj)} {σ : St} {H : Hp} {s : Shared} {p : Addr} {xs ys : List V} {its its' : List Value} {n n' : Nat} {f : Obj → Obj} (I : Inv X pins σ H s) (h : H p = some (.lst xs))
    (ho : s.heap.get? p = some { cls := .type "list", data := .seq its.toArray n }) (hf : f { cls := .type "list", data := .seq its.toArray n } = { cls := .type "list", data := .seq its'.toArray n' }) (r : Vals ys its') (hz : ys.length ≤ sizeLine) (t : Nat) :
    Inv X pins σ (upd H p (.lst ys)) { s with heap := s.heap.update p f, toks := t } := by
  have e : (s.heap.update p f).get? p = some { cls := .type "list", data := .seq its'.toArray n' } := by
    rw [Heap.get?_update_self f ho (by rw [hf] <;> rfl), hf]
  refine I.write (x := p) (e := p) (by rw [h]; trivial) (.inl rfl) (fun b u hb q => (Heap.get?_update_other _ _ (Ne.symm hb)).trans q) ⟨_, e⟩ ?_
  exact ⟨hz, its', n', r, e⟩
def rSetL : V → V → V → Hp → (Hp → Prop) → Prop := fun o i v H Q => ∃ p xs k j, o = .ref p ∧ i = .int k ∧ H p = some (.lst xs) ∧ ixN xs.length k = some j ∧ Q (upd H p (.lst (xs.set j v)))
theorem set_list : PSet X rSetL := by
  intro pins s σ H o i v ov iv u Q I ro ri rv h
  obtain ⟨p, xs, k, j, rfl, rfl, hp, hj, q⟩ := h
  cases ro
  obtain ⟨t, rfl⟩ := ri
  obtain ⟨its, n, r, ho, hz⟩ := I.lst hp
  obtain ⟨h1, h2, h3, h4⟩ := ixN_seq hj
  have hl := r.length
  have hn := line63
  have I' : Inv X pins σ (upd H p (.lst (xs.set j v))) { s with heap := s.heap.update p (Obj.mapSeq (·.setIfInBounds j u)) } :=
    I.lstUpd hp ho (mapSeq_set its n j u) (r.set rv j) (by rw [List.length_set]; exact hz) s.toks
  by_cases h0 : 0 ≤ k
  · have hk : k.toNat = j := by
      rw [seqIndex_of h0 h4] at h1
      exact Option.some.inj h1
    exact PySem.W.ki_setAt ho h0 (by omega) (by rw [List.size_toArray, ← hl]; exact h4) (by rw [hk]; exact ⟨_, I', q⟩)
  · have hk : (k + (its.toArray.size : Int)).toNat = j := by
      rw [seqIndex_neg (by omega) h3] at h1
      rw [List.size_toArray, ← hl]
      exact Option.some.inj h1
    exact PySem.W.ki_setBack ho (by omega) (by rw [List.size_toArray, ← hl]; exact h3) (by omega) (by rw [hk]; exact ⟨_, I', q⟩)

/-! ### slices -/
theorem slice_bounds (lo hi : Option Int) (n : Nat) : (sliceBounds lo hi none n).1 = ((HT.sIx n 0 lo : Nat) : Int) ∧ (sliceBounds lo hi none n).2.1 = ((HT.sIx n n hi : Nat) : Int) ∧ (sliceBounds lo hi none n).2.2 = 1 := by
  refine ⟨?_, ?_, rfl⟩
  · cases lo with
    | none => simp [sliceBounds, HT.sIx]
    | some i =>
      simp only [sliceBounds, HT.sIx, Option.getD_none, show (1 : Int) > 0 by decide, if_true]
      by_cases h : i < 0
      · simp only [h, if_true] <;> omega
      · simp only [h, if_false] <;> omega
  · cases hi with
    | none => simp [sliceBounds, HT.sIx]
    | some i =>
      simp only [sliceBounds, HT.sIx, Option.getD_none, show (1 : Int) > 0 by decide, if_true]
      by_cases h : i < 0
      · simp only [h, if_true] <;> omega
      · simp only [h, if_false] <;> omega
theorem slicePick_cut (its : List Value) (lo hi : Option Int) : slicePick its.toArray lo hi none = ((its.drop (HT.sIx its.length 0 lo)).take (HT.sIx its.length its.length hi - HT.sIx its.length 0 lo)).toArray := by
  obtain ⟨h1, h2, h3⟩ := slice_bounds lo hi its.toArray.size
  unfold slicePick
  rw [h1, h2, h3]
  simp only [sliceRange_one, pick_run, List.size_toArray] <;> rfl
/-- xs[lo:hi] of a list: a new list -/
def rSlL (K : PySem.W.Frag) : V → Option Int → Option Int → Hp → VK → Prop := fun x lo hi H Q => ∃ a xs, x = .ref a ∧ SqL K H a xs ∧ ∀ p, H p = none → Q (.ref p) (upd H p (.lst (cutV xs lo hi)))
theorem sl_list : SlR X (rSlL X.K) := by
  intro pins s σ H x v vl vu lo hi sl Q I rx hs pl pu h
  obtain ⟨a, xs, rfl, hx, q⟩ := h
  cases rx
  obtain ⟨its, r, ht, hz⟩ := I.list hx
  have hlen := r.length
  refine ⟨"list", _, slot_list_getitem.lookup, ht.isList.typeIs, ?_⟩
  refine wpAny_getItem_list_slice ht.isList hs pl pu .none (by simp) ?_ (by rw [List.size_toArray] <;> omega)
  rw [slicePick_cut, ← hlen]
  refine ⟨.ref s.heap.objs.size, _, I.laid (t' := s.toks) (o := .lst (cutV xs lo hi)) (fun b ob q => Heap.get?_push_of_some _ q) (Nat.le_refl _) ?_, rfl, q _ (I.hok.fresh (Nat.le_refl _))⟩
  exact ⟨Nat.le_trans (cutV_length xs lo hi) hz, _, 0, (r.drop (HT.sIx xs.length 0 lo)).take (HT.sIx xs.length xs.length hi - HT.sIx xs.length 0 lo), Heap.get?_push_size _ rfl⟩

/-! ### in, not in: flat items -/
def flatV : V → Bool
  | .non => true
  | .bl _ => true
  | .int _ => true
  | .str _ => true
  | _ => false
/-- == of flat values -/
def eqV : V → V → Bool
  | .non, .non => true
  | .bl a, .bl b => a == b
  | .bl a, .int b => (if a then 1 else 0) == b
  | .int a, .bl b => a == (if b then 1 else 0)
  | .int a, .int b => a == b
  | .str a, .str b => a == b
  | _, _ => false
theorem eqAt_V {A : Around} {s : Shared} {y x : V} {u v : Value} (ry : RelV y u) (rx : RelV x v) (fy : flatV y = true) (fx : flatV x = true) : SeqAt.EqAt A s u v (eqV y x) := by
  cases y with
  | non =>
    cases ry
    cases x with
    | non => cases rx; exact SeqAt.EqAt.same _
    | bl b => cases rx; exact SeqAt.EqAt.none_bool b
    | int b => obtain ⟨t, rfl⟩ := rx; exact SeqAt.EqAt.none_int b t
    | str b => obtain ⟨t, rfl⟩ := rx; exact SeqAt.EqAt.none_str b t
    | _ => exact absurd (show false = true from fx) Bool.false_ne_true
  | bl a =>
    cases ry
    cases x with
    | non => cases rx; exact SeqAt.EqAt.bool_none a
    | bl b => cases rx; exact SeqAt.EqAt.bool_bool a b
    | int b => obtain ⟨t, rfl⟩ := rx; exact SeqAt.EqAt.bool_int a b t
    | str b => obtain ⟨t, rfl⟩ := rx; exact SeqAt.EqAt.bool_str a b t
    | _ => exact absurd (show false = true from fx) Bool.false_ne_true
  | int a =>
    obtain ⟨t', rfl⟩ := ry
    cases x with
    | non => cases rx; exact SeqAt.EqAt.int_none a t'
    | bl b => cases rx; exact SeqAt.EqAt.int_bool a t' b
    | int b => obtain ⟨t, rfl⟩ := rx; exact SeqAt.EqAt.int_int a t' b t
    | str b => obtain ⟨t, rfl⟩ := rx; exact SeqAt.EqAt.int_str a t' b t
    | _ => exact absurd (show false = true from fx) Bool.false_ne_true
  | str a =>
    obtain ⟨t', rfl⟩ := ry
    cases x with
    | non => cases rx; exact SeqAt.EqAt.str_none a t'
    | bl b => cases rx; exact SeqAt.EqAt.str_bool a t' b
    | int b => obtain ⟨t, rfl⟩ := rx; exact SeqAt.EqAt.str_int a t' b t
    | str b => obtain ⟨t, rfl⟩ := rx; exact SeqAt.EqAt.str_str a t' b t
    | _ => exact absurd (show false = true from fx) Bool.false_ne_true
  | _ => exact absurd (show false = true from fy) Bool.false_ne_true
/-- the items' answers, read off the values (a value's own answer does not lean on its token) -/
def eqU (x : V) (u : Value) : Bool := match u with
  | .none => eqV .non x
  | .bool b => eqV (.bl b) x
  | .int i _ => eqV (.int i) x
  | .str z _ => eqV (.str z) x
  | _ => false
theorem eqU_of {x y : V} {u : Value} (r : RelV y u) (f : flatV y = true) : eqU x u = eqV y x := by
  cases y with
  | non => cases r; rfl
  | bl b => cases r; rfl
  | int i => obtain ⟨t, rfl⟩ := r; rfl
  | str z => obtain ⟨t, rfl⟩ := r; rfl
  | _ => exact absurd (show false = true from f) Bool.false_ne_true
theorem any_eqU {x : V} : ∀ {xs : List V} {us : List Value}, Vals xs us → xs.all flatV = true → us.any (eqU x) = xs.any fun y => eqV y x
  | _, _, .nil, _ => rfl
  | y :: xs, u :: us, .cons r t, f => by
    rw [List.all_cons, Bool.and_eq_true] at f
    rw [List.any_cons, List.any_cons, eqU_of r f.1, any_eqU t f.2]
theorem mem_eqAt {A : Around} {s : Shared} {x : V} {v : Value} (rx : RelV x v) (fx : flatV x = true) : ∀ {xs : List V} {us : List Value}, Vals xs us → xs.all flatV = true → ∀ u ∈ us, SeqAt.EqAt A s u v (eqU x u)
  | _, _, .nil, _ => fun u hu => by cases hu
  | y :: xs, u :: us, .cons r t, f => fun u' hu => by
    rw [List.all_cons, Bool.and_eq_true] at f
    rcases List.mem_cons.mp hu with rfl | hu
    · rw [eqU_of r f.1]; exact eqAt_V r rx f.1 fx
    · exact mem_eqAt rx fx t f.2 u' hu
def inV (x : V) (xs : List V) : Bool := xs.any fun y => eqV y x
/-- x in a list or tuple of flat items -/
def rIn (K : PySem.W.Frag) (neg : Bool) : R2 := fun x y H Q => ∃ p xs, y = .ref p ∧ (SqL K H p xs ∨ SqT K H p xs) ∧ flatV x = true ∧ xs.all flatV = true ∧ Q (.bl (if neg then !inV x xs else inV x xs)) H
theorem op_in_seq : OpR X (compareOp .In) (rIn X.K false) := by
  intro pins s σ H x y v u Q I rx ry h
  obtain ⟨p, xs, rfl, hq, fx, fs, q⟩ := h
  cases ry
  rcases hq with hq | hq
  · obtain ⟨its, r, pl, hz⟩ := I.list hq
    refine SeqAt.in_listAt (eqU x) pl.isList (fun w hw => mem_eqAt rx fx r fs w (by simpa using hw)) ⟨.bl _, H, I, rfl, ?_⟩
    rw [show its.toArray.any (eqU x) = its.any (eqU x) by simp, any_eqU r fs]
    exact q
  · obtain ⟨its, r, pl, hz⟩ := I.tuple hq
    refine SeqAt.in_tupleAt (eqU x) pl (fun w hw => mem_eqAt rx fx r fs w (by simpa using hw)) ⟨.bl _, H, I, rfl, ?_⟩
    rw [show its.toArray.any (eqU x) = its.any (eqU x) by simp, any_eqU r fs]
    exact q
theorem op_notIn_seq : OpR X (compareOp .NotIn) (rIn X.K true) := by
  intro pins s σ H x y v u Q I rx ry h
  obtain ⟨p, xs, rfl, hq, fx, fs, q⟩ := h
  cases ry
  rcases hq with hq | hq
  · obtain ⟨its, r, pl, hz⟩ := I.list hq
    refine SeqAt.notIn_listAt (eqU x) pl.isList (fun w hw => mem_eqAt rx fx r fs w (by simpa using hw)) ⟨.bl _, H, I, rfl, ?_⟩
    rw [show its.toArray.any (eqU x) = its.any (eqU x) by simp, any_eqU r fs]
    exact q
  · obtain ⟨its, r, pl, hz⟩ := I.tuple hq
    refine SeqAt.notIn_tupleAt (eqU x) pl (fun w hw => mem_eqAt rx fx r fs w (by simpa using hw)) ⟨.bl _, H, I, rfl, ?_⟩
    rw [show its.toArray.any (eqU x) = its.any (eqU x) by simp, any_eqU r fs]
    exact q
theorem op_notIn_str : OpR X (compareOp .NotIn) (fun x y H Q => ∃ i j, x = .str i ∧ y = .str j ∧ Q (.bl (!(!(Builtin.Str.occurrences j i 0 j.length 1).isEmpty))) H) := by
  intro pins s σ H x y v u Q I rx ry h
  obtain ⟨i, j, rfl, rfl, q⟩ := h
  obtain ⟨t, rfl⟩ := rx
  obtain ⟨t', rfl⟩ := ry
  exact notIn_str ⟨.bl _, H, I, rfl, q⟩

/-! ### len, list(x), tuple(x) of any list or tuple that is read -/
theorem call_len_seq : CallR X (.builtin "len") (fun xs H Q => ∃ p ys, xs = [.ref p] ∧ (SqL X.K H p ys ∨ SqT X.K H p ys) ∧ Q (.int ys.length) H) := by
  intro pins s σ H xs us Q I r h
  obtain ⟨p, ys, rfl, hq, q⟩ := h
  obtain ⟨u, rfl, rx⟩ := vals1 r
  cases rx
  have hn := line63
  rcases hq with hq | hq
  · obtain ⟨its, r', pl, hz⟩ := I.list hq
    have hlen := r'.length
    exact Calls.call_len_list pl.isList (by simp only [List.size_toArray] <;> omega) ⟨.int ys.length, H, I.tok _, ⟨s.toks + 1, by rw [List.size_toArray, hlen]⟩, q⟩
  · obtain ⟨its, r', pl, hz⟩ := I.tuple hq
    have hlen := r'.length
    exact len_tuple pl (by simp only [List.size_toArray] <;> omega) ⟨.int ys.length, H, I.tok _, ⟨s.toks + 1, by rw [List.size_toArray, hlen]⟩, q⟩
theorem call_len_str : CallR X (.builtin "len") (fun xs H Q => ∃ z, xs = [.str z] ∧ z.length ≤ sizeLine ∧ Q (.int z.length) H) := by
  intro pins s σ H xs us Q I r h
  obtain ⟨z, rfl, hz, q⟩ := h
  obtain ⟨u, rfl, t, rfl⟩ := vals1 r
  have hn := line63
  exact len_str (by omega) ⟨.int z.length, H, I.tok _, ⟨_, rfl⟩, q⟩
theorem CallR.or {f : Value} {r r' : List V → Hp → VK → Prop} (h : CallR X f r) (h' : CallR X f r') : CallR X f (fun xs H Q => r xs H Q ∨ r' xs H Q) := by
  intro pins s σ H xs us Q I rs q
  rcases q with q | q
  · exact h pins s σ H xs us Q I rs q
  · exact h' pins s σ H xs us Q I rs q
theorem call_list_of : CallR X (.type "list") (fun xs H Q => ∃ p ys, xs = [.ref p] ∧ (SqL X.K H p ys ∨ SqT X.K H p ys) ∧ ∀ l, H l = none → Q (.ref l) (upd H l (.lst ys))) := by
  intro pins s σ H xs us Q I r h
  obtain ⟨p, ys, rfl, hq, q⟩ := h
  obtain ⟨u, rfl, rx⟩ := vals1 r
  cases rx
  have fin : ∀ (its : List Value), Vals ys its → ys.length ≤ sizeLine → ∀ (h' : Heap) (c' : Nat), (∀ b o', s.heap.get? b = some o' → h'.get? b = some o') →
      h'.get? s.heap.objs.size = some { cls := .type "list", dict := none, data := .seq its.toArray c', slots := #[] } → EP X pins σ Q (.ref s.heap.objs.size) { s with heap := h' } := fun its r' hz h' c' kp e =>
    ⟨.ref s.heap.objs.size, _, I.laid (t' := s.toks) kp (Nat.le_refl _) (show ObjOk X.prog X.w _ h' _ (.lst ys) from ⟨hz, its, c', r', e⟩), rfl, q _ (I.hok.fresh (Nat.le_refl _))⟩
  rcases hq with hq | hq
  · obtain ⟨its, r', pl, hz⟩ := I.list hq
    have hlen := r'.length
    obtain ⟨o, ho, hc, n, hd⟩ := pl.isList
    exact call_list_seq p (.inl rfl) ho hc hd (fun h' c' kp e => fin its r' hz h' c' kp e) (by simp only [List.size_toArray] <;> omega)
  · obtain ⟨its, r', pl, hz⟩ := I.tuple hq
    have hlen := r'.length
    obtain ⟨o, ho, hc, n, hd⟩ := pl
    exact call_list_seq p (.inr rfl) ho hc hd (fun h' c' kp e => fin its r' hz h' c' kp e) (by simp only [List.size_toArray] <;> omega)
theorem call_tuple_of : CallR X (.type "tuple") (fun xs H Q => ∃ p ys, xs = [.ref p] ∧ ((SqL X.K H p ys ∧ ∀ l, H l = none → Q (.ref l) (upd H l (.tup ys))) ∨ (SqT X.K H p ys ∧ Q (.ref p) H))) := by
  intro pins s σ H xs us Q I r h
  obtain ⟨p, ys, rfl, h⟩ := h
  obtain ⟨u, rfl, rx⟩ := vals1 r
  cases rx
  rcases h with ⟨hq, q⟩ | ⟨hq, q⟩
  · obtain ⟨its, r', pl, hz⟩ := I.list hq
    have hlen := r'.length
    refine call_tuple_list pl.isList (fun h' kp => ?_) (by simp only [List.size_toArray] <;> omega)
    have I1 : Inv X pins σ H { s with heap := h' } := I.kept (t' := s.toks) kp
    have I2 : Inv X pins σ (upd H h'.objs.size (.tup ys)) { s with heap := h'.push { cls := .type "tuple", data := .seq its.toArray } } :=
      I1.laid (t' := s.toks) (fun b o e => Heap.get?_push_of_some _ e) (Nat.le_refl _) (show ObjOk X.prog X.w _ _ _ (.tup ys) from ⟨hz, its, r', IsTup.new _ _⟩)
    exact ⟨.ref h'.objs.size, _, I2, rfl, q _ (I1.hok.fresh (Nat.le_refl _))⟩
  · obtain ⟨its, r', pl, hz⟩ := I.tuple hq
    exact call_tuple_same pl ⟨.ref p, H, I, rfl, q⟩

/-! ### the call of a builtin's method: o.m(..) -/
/-- the value is of that builtin type -/
def tyV (K : PySem.W.Frag) (T : String) (x : V) (H : Hp) : Prop := match x with
  | .str _ => T = "str"
  | .int _ => T = "int"
  | .ref p => (T = "list" ∧ ∃ xs, SqL K H p xs) ∨ (T = "tuple" ∧ ∃ o, K.lookup p = some o ∧ o.cls = .type "tuple" ∧ o.dict = none) ∨
      (T = "dict" ∧ ((∃ kvs, H p = some (.dK kvs)) ∨ ∃ kvs, H p = some (.dT kvs))) ∨ (T = "set" ∧ ∃ S n, H p = some (.set S n))
  | _ => False
theorem tyV_is {pins : List (Addr × Obj)} {σ : St} {H : Hp} {s : Shared} {T : String} {x : V} {v : Value} (I : Inv X pins σ H s) (r : RelV x v) (ty : tyV X.K T x H) :
    s.TypeIs v T ∧ ∀ a, v = .ref a → ∃ ob, s.heap.get? a = some ob ∧ ob.dict = none := by
  cases x with
  | str z =>
    obtain ⟨t, rfl⟩ := r
    cases (show T = "str" from ty)
    exact ⟨typeIs_str s z t, fun _ e => nomatch e⟩
  | int i =>
    obtain ⟨t, rfl⟩ := r
    cases (show T = "int" from ty)
    exact ⟨typeIs_int s i t, fun _ e => nomatch e⟩
  | ref p =>
    cases r
    rcases ty with ⟨rfl, xs, hq⟩ | ⟨rfl, o, hk, hc, hd⟩ | ⟨rfl, hk⟩ | ⟨rfl, S, n, hk⟩
    · obtain ⟨its, _, pl, _⟩ := I.list hq
      refine ⟨pl.isList.typeIs, fun a e => ?_⟩
      cases e
      obtain ⟨o, n, e, c, hd, _⟩ := pl
      exact ⟨o, e, hd⟩
    · refine ⟨⟨o, I.kIn p o hk, hc⟩, fun a e => ?_⟩
      cases e
      exact ⟨o, I.kIn _ o hk, hd⟩
    · have z : ∃ o, s.heap.get? p = some o ∧ o.ExactDict := by
        rcases hk with ⟨kvs, hk⟩ | ⟨kvs, hk⟩
        · obtain ⟨_, _, _, _, o, _, _, e, ex, _⟩ := I.hok p _ hk
          exact ⟨o, e, ex⟩
        · obtain ⟨_, _, _, _, o, _, _, e, ex, _⟩ := I.hok p _ hk
          exact ⟨o, e, ex⟩
      obtain ⟨o, e, ex⟩ := z
      refine ⟨⟨o, e, ex.1⟩, fun a e2 => ?_⟩
      cases e2
      exact ⟨o, e, ex.2.1⟩
    · obtain ⟨o, _, _, _, e, ex, _⟩ := I.hok p _ hk
      refine ⟨⟨o, e, ex.1⟩, fun a e2 => ?_⟩
      cases e2
      exact ⟨o, e, ex.2.1⟩
  | _ => exact False.elim ty
def tBM0 (K : PySem.W.Frag) (T : String) (r : V → List V → Hp → VK → Prop) (to : TE) : TE := fun σ H Q => to σ H fun x H1 => tyV K T x H1 ∧ r x [] H1 Q
def tBM (K : PySem.W.Frag) (T : String) (r : V → List V → Hp → VK → Prop) (to : TE) (t : TA) : TE := fun σ H Q => to σ H fun x H1 => tyV K T x H1 ∧ t σ H1 fun xs H2 => r x xs H2 Q
variable {o e : Expr} {es : List Expr} {to : TE} {t : TA} {name : Str} {apos cpos : Pos} {T id : String} {r : V → List V → Hp → VK → Prop}
theorem pe_bm0 (pa : PlainAttrs T) (slot : Slot T name id) (hty : typeOf (.builtin id) = pure (.type "method_descriptor")) (hm : MtR X id r) (ho : PE X o to)
    (hbase : attributeBase o name X.env (eval o X.env) = eval o X.env := by rfl) (hline : (apos.endLine == cpos.line) = true := by rfl) : PE X (.Call (.Attribute o name apos) [] [] cpos) (tBM0 X.K T r to) := by
  intro pins s σ H Q I h
  refine wpAny_Call_method0_late hbase hline (thn (ho pins s σ H _ I h) fun v s1 ⟨x, H1, I1, r1, ty, q1⟩ => ?_)
  obtain ⟨h1, h2⟩ := tyV_is I1 r1 ty
  exact ⟨T, id, pa, slot, hty, h1, h2, Calls.callWith_builtin rfl (PySem.evalArgs_none (hm pins s1 σ H1 x [] v [] Q I1 r1 .nil q1))⟩
theorem pe_bm (pa : PlainAttrs T) (slot : Slot T name id) (hty : typeOf (.builtin id) = pure (.type "method_descriptor")) (hm : MtR X id r) (ho : PE X o to) (ha : PA X (e :: es) t)
    (hbase : attributeBase o name X.env (eval o X.env) = eval o X.env := by rfl)
    (hfew : ((backTo cpos (starEach (e :: es) X.env)).all (fun x => !x.1) && (backToKw cpos (keywordEach [] X.env)).all (fun x => x.1.isSome)
      && decide ((e :: es).length + ([] : List Keyword).length + (if ([] : List Keyword).isEmpty then 0 else 1) < 30)) = true := by rfl)
    (hline : (apos.endLine == cpos.line) = true := by rfl) (hs : starEach (e :: es) X.env = (false, eval e X.env) :: starEach es X.env := by rfl) (hplain : (backTo cpos (starEach es X.env)).any (·.1) = false := by rfl) :
    PE X (.Call (.Attribute o name apos) (e :: es) [] cpos) (tBM X.K T r to t) := by
  intro pins s σ H Q I h
  refine wpAny_Call_method_late hbase hfew hline rfl (thn (ho pins s σ H _ I h) fun v s1 ⟨x, H1, I1, r1, ty, q1⟩ => ?_)
  obtain ⟨h1, h2⟩ := tyV_is I1 r1 ty
  refine ⟨T, id, pa, slot, hty, h1, h2, ?_⟩
  have hA := ha cpos pins s1 σ H1 _ I1 q1
  rw [hs] at hA ⊢
  refine Calls.callWith_builtin (by show (false || (backTo cpos (starEach es X.env)).any (·.1)) = false; rw [hplain] <;> rfl) (Calls.evalArgs_plain ?_)
  exact thn hA fun us s2 ⟨vs, H2, I2, r2, q2⟩ => hm pins s2 σ H2 x vs v us Q I2 r1 r2 q2
/- xs.append(e), list.index on a module's tuple .. are MtR facts of 06m -/
end
end L2

namespace L2
open PySem PySem.Spec PyProof.Rows

def MtM (X : Cx) (id : String) (r : V → List V → Hp → VK → Prop) : Prop :=
  ∀ (pins : List (Addr × Obj)) (s : Shared) (σ : St) (H : Hp) (x : V) (xs : List V) (v : Value) (us : List Value) (Q : VK), Inv X pins σ H s → RelV x v → Vals xs us → r x xs H Q →
    wpAny (model X.prog X.w) X.A (call (.builtin id) (v :: us)) (EP X pins σ Q) X.xe s

/-! ### lists of values -/
theorem Vals.one : ∀ {x : V} {us : List Value}, Vals [x] us → ∃ u, us = [u] ∧ RelV x u
  | _, _, .cons r .nil => ⟨_, rfl, r⟩
theorem Vals.two : ∀ {x y : V} {us : List Value}, Vals [x, y] us → ∃ u v, us = [u, v] ∧ RelV x u ∧ RelV y v
  | _, _, _, .cons r (.cons q .nil) => ⟨_, _, rfl, r, q⟩
theorem Vals.zero : ∀ {us : List Value}, Vals [] us → us = []
  | _, .nil => rfl
theorem Vals.dropLast {xs : List V} {us : List Value} (h : Vals xs us) : Vals xs.dropLast us.dropLast := by
  induction h with
  | nil => exact .nil
  | cons r t ih =>
    cases t with
    | nil => exact .nil
    | cons q t' => exact .cons r ih
theorem Vals.eraseIdx : ∀ {xs : List V} {us : List Value} (i : Nat), Vals xs us → Vals (xs.eraseIdx i) (us.eraseIdx i)
  | _, _, _, .nil => .nil
  | _, _, 0, .cons _ t => t
  | _, _, i + 1, .cons r t => .cons r (Vals.eraseIdx i t)
theorem Vals.reverse {xs : List V} {us : List Value} (h : Vals xs us) : Vals xs.reverse us.reverse := by
  induction h with
  | nil => exact .nil
  | cons r t ih => rw [List.reverse_cons, List.reverse_cons]; exact Vals.append ih (.cons r .nil)
theorem Vals.rep {xs : List V} {us : List Value} (h : Vals xs us) : ∀ k : Nat, Vals (List.replicate k xs).flatten (List.replicate k us).flatten
  | 0 => .nil
  | k + 1 => by
    rw [List.replicate_succ, List.replicate_succ, List.flatten_cons, List.flatten_cons]
    exact Vals.append h (Vals.rep h k)
theorem erase_last {α : Type} (l : List α) : l.eraseIdx (l.length - 1) = l.dropLast := by
  induction l with
  | nil => rfl
  | cons a r ih =>
    cases r with
    | nil => rfl
    | cons b r =>
      have e : (a :: b :: r).length - 1 = ((b :: r).length - 1) + 1 := by
        have h1 : (a :: b :: r).length = r.length + 2 := rfl
        have h2 : (b :: r).length = r.length + 1 := rfl
        omega
      rw [e, List.eraseIdx_cons_succ, ih]
      all_goals rfl
theorem len_erase {α : Type} : ∀ (l : List α) (i : Nat), (l.eraseIdx i).length ≤ l.length
  | [], _ => Nat.le_refl _
  | _ :: _, 0 => Nat.le_succ _
  | _ :: r, i + 1 => Nat.succ_le_succ (len_erase r i)
theorem foldl_rep (its : List Value) : ∀ (k : Nat) (acc : List Value),
    List.foldl (fun x1 x2 => x1 ++ x2) acc.toArray (List.replicate k its.toArray) = (acc ++ (List.replicate k its).flatten).toArray
  | 0, acc => by simp
  | k + 1, acc => by
    have e : acc.toArray ++ its.toArray = (acc ++ its).toArray := by simp
    have e2 : (acc ++ its) ++ (List.replicate k its).flatten = acc ++ (List.replicate (k + 1) its).flatten := by
      rw [List.replicate_succ, List.flatten_cons, List.append_assoc]
    rw [← e2, ← foldl_rep its k (acc ++ its), ← e, List.replicate_succ, List.foldl_cons]

section
variable {X : Cx} {pins : List (Addr × Obj)} {σ : St} {H : Hp} {s : Shared} {l b : Addr} {xs ys zs : List V}

/-! ### the two steps: a tracked list is rewritten, a new list is laid -/
theorem Inv.lset {its its' : List Value} {n : Nat} {f : Array Value → Array Value} {t' : Nat} (I : Inv X pins σ H s) (hH : H l = some (.lst xs))
    (e : s.heap.get? l = some { cls := .type "list", data := .seq its.toArray n }) (hf : f its.toArray = its'.toArray) (hv : Vals ys its') (hz : ys.length ≤ sizeLine) :
    Inv X pins σ (upd H l (.lst ys)) { s with heap := s.heap.update l (Obj.mapSeq f), toks := t' } := by
  have q := PySem.IsL.update e f
  rw [hf] at q
  refine I.write (x := l) (e := l) (by rw [hH]; exact trivial) (.inl rfl) (fun b' u hb hu => (Heap.get?_update_other s.heap (Obj.mapSeq f) (Ne.symm hb)).trans hu) ⟨_, q⟩ ?_
  exact ⟨hz, its', _, hv, q⟩
theorem Inv.lnew {its : List Value} {t' : Nat} (I : Inv X pins σ H s) (hv : Vals ys its) (hz : ys.length ≤ sizeLine) :
    Inv X pins σ (upd H s.heap.objs.size (.lst ys)) { s with heap := s.heap.push { cls := .type "list", data := .seq its.toArray }, toks := t' } :=
  I.laid (fun _ _ q => Heap.get?_push_of_some _ q) (Nat.le_refl _) ⟨hz, its, 0, hv, Heap.get?_push_size _ rfl⟩
theorem Inv.fresh (I : Inv X pins σ H s) : H s.heap.objs.size = none := I.hok.fresh (Nat.le_refl _)
theorem Inv.lstM (I : Inv X pins σ H s) (hH : H l = some (.lst xs)) : xs.length ≤ sizeLine ∧ ∃ (its : List Value) (n : Nat), Vals xs its ∧ xs.length = its.length ∧ s.heap.get? l = some { cls := .type "list", data := .seq its.toArray n } := by
  obtain ⟨z, its, n, r, e⟩ := I.hok l _ hH
  exact ⟨z, its, n, r, r.length, e⟩

theorem notLongL {n : Nat} (h : n ≤ sizeLine) : Builtin.List.listTooLong n = false := by
  unfold Builtin.List.listTooLong
  exact decide_eq_false (by omega)
end

section
variable {X : Cx}

/-! ### methods -/
def rAppend : V → List V → Hp → VK → Prop := fun x vs H Q => ∃ l xs y, x = .ref l ∧ vs = [y] ∧ H l = some (.lst xs) ∧ xs.length < sizeLine ∧ Q .non (upd H l (.lst (xs ++ [y])))
theorem mt_append : MtM X "list.append" rAppend := by
  intro pins s σ H x vs v us Q I rx rv h
  obtain ⟨l, xs, y, rfl, rfl, hH, hz, q⟩ := h
  cases rx
  obtain ⟨u, rfl, ru⟩ := rv.one
  obtain ⟨z, its, n, r, hl, e⟩ := I.lstM hH
  refine call_meets F.slot_list_append ⟨_, e, rfl⟩ F.entry_list_append (F.args_list_append_2 _ _) (PySem.list_append l its.toArray n u (by rw [List.size_toArray]; omega)) ⟨e, ?_⟩
  refine ⟨.non, _, I.lset (its' := its ++ [u]) hH e (by simp) (r.append (.cons ru .nil)) ?_, rfl, q⟩
  rw [List.length_append, List.length_singleton]
  omega

def rExtend : V → List V → Hp → VK → Prop := fun x vs H Q => ∃ l b xs zs, x = .ref l ∧ vs = [.ref b] ∧ H l = some (.lst xs) ∧ H b = some (.lst zs) ∧ xs.length + zs.length ≤ sizeLine ∧ Q .non (upd H l (.lst (xs ++ zs)))
theorem mt_extend : MtM X "list.extend" rExtend := by
  intro pins s σ H x vs v us Q I rx rv h
  obtain ⟨l, b, xs, zs, rfl, rfl, hH, hB, hz, q⟩ := h
  cases rx
  obtain ⟨u, rfl, ru⟩ := rv.one
  cases ru
  obtain ⟨z, its, n, r, hl, e⟩ := I.lstM hH
  obtain ⟨z2, its2, n2, r2, hl2, e2⟩ := I.lstM hB
  have hsz : its.toArray.size + its2.toArray.size ≤ sizeLine := by rw [List.size_toArray, List.size_toArray]; omega
  have hlong : ¬ (!its.toArray.isEmpty && Builtin.List.listTooLong (its.toArray.size + its2.toArray.size)) = true := by
    rw [notLongL hsz, Bool.and_false]
    exact Bool.false_ne_true
  refine call_meets F.slot_list_extend ⟨_, e, rfl⟩ F.entry_list_extend (F.args_list_extend_2 _ _)
    (AutoSeq1.list_extend_list_list_0 l its.toArray n b its2.toArray n2 hlong (by rw [List.size_toArray]; omega) (by omega)) ⟨e, e2, ?_⟩
  refine ⟨.non, _, I.lset (its' := its ++ its2) hH e (by simp) (r.append r2) ?_, rfl, q⟩
  rw [List.length_append]
  omega

def rPop : V → List V → Hp → VK → Prop := fun x vs H Q => ∃ l xs y, x = .ref l ∧ vs = [] ∧ H l = some (.lst xs) ∧ xs[xs.length - 1]? = some y ∧ Q y (upd H l (.lst xs.dropLast))
theorem mt_pop : MtM X "list.pop" rPop := by
  intro pins s σ H x vs v us Q I rx rv h
  obtain ⟨l, xs, y, rfl, rfl, hH, hy, q⟩ := h
  cases rx
  have hus := rv.zero
  subst hus
  obtain ⟨z, its, n, r, hl, e⟩ := I.lstM hH
  obtain ⟨u, hu, ru⟩ := r.get hy
  have hy' : its.toArray[its.toArray.size - 1]? = some u := by
    show its.toArray[its.length - 1]? = some u
    rw [← Array.getElem?_toList, ← hl]
    exact hu
  refine call_meets F.slot_list_pop ⟨_, e, rfl⟩ F.entry_list_pop (F.args_list_pop_1 _) (MeetsSeq.list_pop_last l its.toArray n u hy' (by rw [List.size_toArray]; omega)) ⟨e, ?_⟩
  refine ⟨y, _, I.lset (its' := its.dropLast) hH e ?_ r.dropLast ?_, ru, q⟩
  · show its.toArray.eraseIdxIfInBounds (its.toArray.size - 1) = its.dropLast.toArray
    rw [List.size_toArray, List.eraseIdxIfInBounds_toArray, erase_last]
  · rw [List.length_dropLast]
    omega

def rPopAt : V → List V → Hp → VK → Prop := fun x vs H Q => ∃ l xs i k y, x = .ref l ∧ vs = [.int i] ∧ H l = some (.lst xs) ∧ -(2 ^ 63) ≤ i ∧ i < 2 ^ 63 ∧ seqIndex? i xs.length = some k ∧ xs[k]? = some y ∧ Q y (upd H l (.lst (xs.eraseIdx k)))
theorem mt_popAt : MtM X "list.pop" rPopAt := by
  intro pins s σ H x vs v us Q I rx rv h
  obtain ⟨l, xs, i, k, y, rfl, rfl, hH, h1, h2, hk, hy, q⟩ := h
  cases rx
  obtain ⟨u, rfl, ru⟩ := rv.one
  obtain ⟨t, rfl⟩ := ru
  obtain ⟨z, its, n, r, hl, e⟩ := I.lstM hH
  obtain ⟨w, hw, rw'⟩ := r.get hy
  refine call_meets F.slot_list_pop ⟨_, e, rfl⟩ F.entry_list_pop (F.args_list_pop_2 _ _)
    (MeetsSeq.list_pop_at l its.toArray n i t k w (fitsIndex_both h1 h2) (by rw [List.size_toArray, ← hl]; exact hk) (by rw [← Array.getElem?_toList]; exact hw) (by rw [List.size_toArray]; omega)) ⟨e, ?_⟩
  refine ⟨y, _, I.lset (its' := its.eraseIdx k) hH e ?_ (r.eraseIdx k) ?_, rw', q⟩
  · show its.toArray.eraseIdxIfInBounds k = (its.eraseIdx k).toArray
    rw [List.eraseIdxIfInBounds_toArray]
  · have := len_erase xs k
    omega

def rReverse : V → List V → Hp → VK → Prop := fun x vs H Q => ∃ l xs, x = .ref l ∧ vs = [] ∧ H l = some (.lst xs) ∧ Q .non (upd H l (.lst xs.reverse))
theorem mt_reverse : MtM X "list.reverse" rReverse := by
  intro pins s σ H x vs v us Q I rx rv h
  obtain ⟨l, xs, rfl, rfl, hH, q⟩ := h
  cases rx
  have hus := rv.zero
  subst hus
  obtain ⟨z, its, n, r, hl, e⟩ := I.lstM hH
  refine call_meets F.slot_list_reverse ⟨_, e, rfl⟩ F.entry_list_reverse (F.args_list_reverse_1 _) (AutoSeq1.list_reverse_list_0 l its.toArray n (by rw [List.size_toArray]; omega)) ⟨e, ?_⟩
  refine ⟨.non, _, I.lset (its' := its.reverse) hH e (by simp) r.reverse ?_, rfl, q⟩
  rw [List.length_reverse]
  omega

def rClear : V → List V → Hp → VK → Prop := fun x vs H Q => ∃ l xs, x = .ref l ∧ vs = [] ∧ H l = some (.lst xs) ∧ Q .non (upd H l (.lst []))
theorem mt_clear : MtM X "list.clear" rClear := by
  intro pins s σ H x vs v us Q I rx rv h
  obtain ⟨l, xs, rfl, rfl, hH, q⟩ := h
  cases rx
  have hus := rv.zero
  subst hus
  obtain ⟨z, its, n, r, hl, e⟩ := I.lstM hH
  refine call_meets F.slot_list_clear ⟨_, e, rfl⟩ F.entry_list_clear (F.args_list_clear_1 _) (AutoSeq1.list_clear_list_0 l its.toArray n (by rw [List.size_toArray]; omega)) ⟨e, ?_⟩
  exact ⟨.non, _, I.lset (its' := []) (ys := []) hH e rfl .nil (Nat.zero_le _), rfl, q⟩

/-! ### list + list, list += list, list * int -/
def rCat : R2 := fun x y H Q => ∃ l b xs zs, x = .ref l ∧ y = .ref b ∧ H l = some (.lst xs) ∧ H b = some (.lst zs) ∧ xs.length + zs.length ≤ sizeLine ∧ ∀ p, H p = none → Q (.ref p) (upd H p (.lst (xs ++ zs)))
theorem op_cat : OpR X (binaryOp .Add) rCat := by
  intro pins s σ H x y v u Q I rx ry h
  obtain ⟨l, b, xs, zs, rfl, rfl, hH, hB, hz, q⟩ := h
  cases rx
  cases ry
  obtain ⟨z, its, n, r, hl, e⟩ := I.lstM hH
  obtain ⟨z2, its2, n2, r2, hl2, e2⟩ := I.lstM hB
  refine PySem.P.add_list e e2 ?_ (by rw [List.size_toArray, List.size_toArray]; omega)
  have ea : its.toArray ++ its2.toArray = (its ++ its2).toArray := by simp
  rw [ea]
  exact ⟨.ref _, _, I.lnew (t' := s.toks) (r.append r2) (by rw [List.length_append]; omega), rfl, q _ I.fresh⟩
/-- a list times an int (a negative one is nothing) -/
def rRep : R2 := fun x y H Q => ∃ l k xs, x = .ref l ∧ y = .int k ∧ H l = some (.lst xs) ∧ -(2 ^ 63) ≤ k ∧ k < 2 ^ 63 ∧ xs.length * k.toNat ≤ sizeLine ∧
  ∀ p, H p = none → Q (.ref p) (upd H p (.lst (List.replicate k.toNat xs).flatten))
theorem len_rep {α : Type} (xs : List α) (k : Nat) : (List.replicate k xs).flatten.length = k * xs.length := by
  induction k with
  | zero => simp
  | succ k ih => rw [List.replicate_succ, List.flatten_cons, List.length_append, ih, Nat.succ_mul, Nat.add_comm]
theorem op_rep : OpR X (binaryOp .Mult) rRep := by
  intro pins s σ H x y v u Q I rx ry h
  obtain ⟨l, k, xs, rfl, rfl, hH, h1, h2, hz, q⟩ := h
  cases rx
  obtain ⟨t, rfl⟩ := ry
  obtain ⟨z, its, n, r, hl, e⟩ := I.lstM hH
  have hlen : its.toArray.size * k.toNat ≤ sizeLine := by rw [List.size_toArray, ← hl]; exact hz
  have hcap : ¬ its.toArray.size * k.toNat > (2 ^ 63 - 1) / 8 := by
    have : (sizeLine : Nat) ≤ (2 ^ 63 - 1) / 8 := by decide
    omega
  have hfit : ¬ (!Builtin.List.listFitsIndex k) = true := by
    rw [fitsIndex_both h1 h2]
    exact Bool.false_ne_true
  have hlong : ¬ Builtin.List.listTooLong (its.toArray.size * k.toNat) = true := by
    rw [notLongL hlen]
    exact Bool.false_ne_true
  have hnew : List.foldl (fun x1 x2 => x1 ++ x2) #[] (List.replicate (if its.toArray.isEmpty = true then 0 else k.toNat) its.toArray) = (List.replicate k.toNat its).flatten.toArray := by
    have f0 : ∀ m : Nat, List.foldl (fun x1 x2 => x1 ++ x2) #[] (List.replicate m its.toArray) = (List.replicate m its).flatten.toArray := fun m => by
      have := foldl_rep its m []
      rw [List.nil_append] at this
      exact this
    rw [f0]
    cases its with
    | nil => simp
    | cons a r' => rw [if_neg (by simp)]
  refine wpAny_binaryOp_repeat_ref (T := "list") (U := "int") (by decide) ⟨_, e, rfl⟩ (fun s' => typeIs_int s' k t) noFill_list_mul F.fills_int_mul F.slot_int_rmul repeat_list F.slot_int_index.lookup
    (call_meets F.slot_int_rmul (typeIs_int s k t) F.entry_int_rmul (F.args_int_rmul_2 _ _) (int___rmul___int_list k t l its.toArray n)
      ⟨e, rfl, ⟨_, e, rfl⟩, call_meets F.slot_list_mul ⟨_, e, rfl⟩ F.entry_list_mul (F.args_list_mul_2 _ _) (AutoListH.list___mul___list_int_3 l its.toArray n k t hfit hcap hlong) ⟨e, ?_⟩⟩)
  rw [hnew]
  exact ⟨.ref _, _, I.lnew (t' := s.toks) (r.rep k.toNat) (by rw [len_rep, Nat.mul_comm]; exact hz), rfl, q _ I.fresh⟩

/-! ### del xs[i] -/
theorem del_list {pins : List (Addr × Obj)} {s : Shared} {σ : St} {H : Hp} {l : Addr} {xs : List V} {i : Int} {t : Tok} {k : Nat} {Q : Unit → Shared → Prop} (I : Inv X pins σ H s) (hH : H l = some (.lst xs))
    (h1 : -(2 ^ 63) ≤ i) (h2 : i < 2 ^ 63) (hk : seqIndex? i xs.length = some k) (h : ∀ s', Inv X pins σ (upd H l (.lst (xs.eraseIdx k))) s' → Q () s') :
    wpAny (model X.prog X.w) X.A (delItem (.ref l) (.int i t)) Q X.xe s := by
  obtain ⟨z, its, n, r, hl, e⟩ := I.lstM hH
  refine PySem.P.delItem_list (k := k) e (fitsIndex_both h1 h2) (by rw [List.size_toArray, ← hl]; exact hk) (h _ ?_) (by rw [List.size_toArray]; omega)
  refine I.lset (its' := its.eraseIdx k) (t' := s.toks) hH e ?_ (r.eraseIdx k) ?_
  · show its.toArray.eraseIdxIfInBounds k = (its.eraseIdx k).toArray
    rw [List.eraseIdxIfInBounds_toArray]
  · have := len_erase xs k
    omega
end

/-! ### xs[a:b] = ys -/
section
variable {prog : Program} {w : World} {A : Around} {E : Value → Shared → Prop} {s : Shared}
theorem splice_eq (its its2 : List Value) (a c : Nat) : its.toArray.extract 0 a ++ its2.toArray ++ its.toArray.extract c its.toArray.size = (its.take a ++ its2 ++ its.drop c).toArray := by
  apply Array.toList_inj.mp
  first
    | (simp
       exact List.take_of_length_le (by simp))
    | simp [List.take_of_length_le]
    | simp
theorem bounds_run {a c n : Nat} (hac : a ≤ c) (hc : c ≤ n) : sliceBounds (some (a : Int)) (some (c : Int)) none n = ((a : Int), (c : Int), 1) := by
  simp only [sliceBounds, Option.getD_none]
  have h1 : ¬ ((a : Int) < 0) := by omega
  have h2 : ¬ ((c : Int) < 0) := by omega
  simp only [h1, h2, if_false, show (1 : Int) > 0 by decide, if_true]
  congr 1
  · omega
  · congr 1; omega
set_option maxRecDepth 100000 in
/-- list.__setitem__ with a slice of step one and another list -/
theorem setItem_slice {l b sl : Addr} {items new : Array Value} {n n2 : Nat} {vl vu : Value} {a c : Nat} {Q : Unit → Shared → Prop}
    (e : s.heap.get? l = some { cls := .type "list", data := .seq items n }) (e2 : s.heap.get? b = some { cls := .type "list", data := .seq new n2 }) (hne : l ≠ b)
    (hs : s.heap.IsSliceOf sl vl vu .none) (pl : IsPart vl (some (a : Int))) (pu : IsPart vu (some (c : Int))) (hac : a ≤ c) (hc : c ≤ items.size)
    (hsz : items.size + new.size ≤ sizeLine) (h : Q () { s with heap := s.heap.update l (Obj.mapSeq fun xs => xs.extract 0 a ++ new ++ xs.extract c xs.size) }) :
    wpAny (model prog w) A (setItem (.ref l) (.ref sl) (.ref b)) Q E s := by
  have hl : s.heap.IsList l items := PySem.IsL.isList e
  have hb : s.heap.IsList b new := PySem.IsL.isList e2
  obtain ⟨os, hos, hcs, hds⟩ := id hs
  have hTs : s.TypeIs (.ref sl) "slice" := ⟨os, hos, hcs⟩
  have hstep : ¬ ((rawPart none == rawInt 0) = true) := Bool.false_ne_true
  have hsame : Builtin.List.listSameRef (.ref l) (.ref b) = false := by
    unfold Builtin.List.listSameRef
    exact beq_eq_false_iff_ne.mpr hne
  have hmax : (max (a : Int) (c : Int)).toNat = c := by omega
  have hz' : ((fun xs : Array Value => xs.extract 0 a ++ new ++ xs.extract c xs.size) items).size ≤ sizeLine + 1 := by
    simp only [Array.size_append, Array.size_extract]
    omega
  unfold setItem
  try with_reducible refine wpAny_holding ?_
  first | refine wpAny_bind (wpAny_pure ?_) | skip
  refine wpAny_bind (wpAny_sequenceKey hl.typeIs (by decide) ?_)
  refine wpAny_bind (wpAny_callSpecial?_slot (name := Str.ofString "__setitem__") hl.typeIs slot_list_setitem
    (wpAny_call_entry slot_list_setitem hl.typeIs entry_list_setitem ?_ (args_list_setitem _ _ _)))
  show wpAny _ _ (Builtin.List.listSubscript? (.ref sl) >>= _) _ _ s
  refine wpAny_bind ?_
  unfold Builtin.List.listSubscript?
  refine wpAny_bind (wpAny_specialOf hTs slice_no_index ?_)
  simp only [Option.isNone_none, if_true]
  refine wpAny_pure ?_
  show wpAny _ _ (typeOf (.ref sl) >>= _) _ _ s
  refine wpAny_bind (wpAny_typeOf hTs ?_)
  first
    | rw [if_neg (by decide)]
    | refine PySem.W.KFB.if_not (by decide) ?_
  rw [listSliceParts_eq]
  refine wpAny_bind (wpAny_bind (wpAny_field hos hds (x := .none) rfl (wpAny_bind (wpAny_listPart .none ?_))))
  rw [if_neg hstep]
  refine wpAny_bind (wpAny_field hos hds (x := vl) rfl (wpAny_bind (wpAny_listPart pl ?_)))
  refine wpAny_bind (wpAny_field hos hds (x := vu) rfl (wpAny_bind (wpAny_listPart pu (wpAny_pure ?_))))
  first
    | simp only [hsame, Bool.false_eq_true, if_false]
    | refine PySem.W.KFB.if_not hsame ?_
    | (dsimp only
       rw [if_neg (by rw [hsame]; exact Bool.false_ne_true)])
  refine wpAny_bind (m := Builtin.List.listAllItems (.ref b) "must assign iterable to extended slice") ?_
  unfold Builtin.List.listAllItems
  refine wpAny_bind (wpAny_typeOf hb.typeIs ?_)
  first
    | refine PySem.W.KFB.if_so (by decide) ?_
    | rw [if_pos (by decide)]
    | simp only [beq_self_eq_true, Bool.true_or, if_true]
  unfold Builtin.List.listItems
  refine wpAny_bind (wpAny_seqItems e2 rfl (wpAny_pure ?_))
  refine wpAny_bind (wpAny_bind (wpAny_seqItems e rfl (wpAny_pure ?_)))
  refine wpAny_bind (wpAny_of_eq ((sliceIndices_raw (some (a : Int)) (some (c : Int)) none items.size (by simp)).trans (congrArg (pure : Int × Int × Int → Sem (Int × Int × Int)) (bounds_run hac hc))) ?_)
  show wpAny _ _ (if ((1 : Int) == 1) = true then _ else _) _ _ s
  rw [if_pos (by decide)]
  refine wpAny_bind (wpAny_rule ?_)
  first
    | simp only [notLongL hsz, Bool.false_eq_true, if_false]
    | refine PySem.W.KFB.if_not (notLongL hsz) ?_
  first | refine wpAny_bind (wpAny_pure ?_) | skip
  show wpAny _ _ (updateSeq l (fun xs => xs.extract 0 ((a : Int)).toNat ++ new ++ xs.extract (max (a : Int) (c : Int)).toNat xs.size) >>= _) _ _ s
  rw [hmax, Int.toNat_natCast]
  refine wpAny_bind (wpAny_updateSeq (hz := Nat.le_trans (Nat.le_add_right _ _) hsz) (_hz' := hz') e rfl ?_)
  refine wpAny_bind (wpAny_letGo ?_)
  first
    | exact wpAny_bind (wpAny_pure (wpAny_pure ⟨.none, rfl, wpAny_pure h⟩))
    | exact wpAny_pure ⟨.none, rfl, wpAny_pure h⟩
end

section
variable {X : Cx}
/-- xs[a:c] = ys of another list, at the value level: sl is the slice object that was just made -/
theorem set_slice {pins : List (Addr × Obj)} {s : Shared} {σ : St} {H : Hp} {l b sl : Addr} {xs ys : List V} {a c : Int} {vl vu : Value} {Q : Unit → Shared → Prop} (I : Inv X pins σ H s)
    (hH : H l = some (.lst xs)) (hB : H b = some (.lst ys)) (hne : l ≠ b) (hs : s.heap.IsSliceOf sl vl vu .none) (ra : RelV (.int a) vl) (rc : RelV (.int c) vu) (h0 : 0 ≤ a) (hac : a ≤ c) (hc : c ≤ xs.length)
    (hz : xs.length + ys.length ≤ sizeLine) (h : ∀ s', Inv X pins σ (upd H l (.lst (xs.take a.toNat ++ ys ++ xs.drop c.toNat))) s' → Q () s') :
    wpAny (model X.prog X.w) X.A (setItem (.ref l) (.ref sl) (.ref b)) Q X.xe s := by
  obtain ⟨ta, rfl⟩ := ra
  obtain ⟨tc, rfl⟩ := rc
  obtain ⟨z, its, n, r, hl, e⟩ := I.lstM hH
  obtain ⟨z2, its2, n2, r2, hl2, e2⟩ := I.lstM hB
  obtain ⟨a', rfl⟩ := Int.eq_ofNat_of_zero_le h0
  obtain ⟨c', rfl⟩ := Int.eq_ofNat_of_zero_le (Int.le_trans h0 hac)
  simp only [Int.toNat_natCast] at h
  refine setItem_slice (a := a') (c := c') e e2 hne hs (.int _ _) (.int _ _) (by omega) (by rw [List.size_toArray]; omega) (by rw [List.size_toArray, List.size_toArray]; omega) (h _ ?_)
  refine I.lset (its' := its.take a' ++ its2 ++ its.drop c') (t' := s.toks) hH e ?_ (Vals.append (Vals.append (r.take _) r2) (r.drop _)) ?_
  · exact splice_eq its its2 a' c'
  · rw [List.length_append, List.length_append, List.length_take, List.length_drop]
    omega
end
end L2
namespace L2
open PySem PySem.Spec PyProof.Rows

/-! ### lists of pairs as tables -/
section
variable {κ : Type} [DecidableEq κ]
def valV (kvs : List (κ × V)) (k : κ) : Option V := (kvs.find? fun kv => decide (kv.1 = k)).map (·.2)
/-- in its place, or at the end -/
def putK (kvs : List (κ × V)) (k : κ) (v : V) : List (κ × V) :=
  if (kvs.any fun kv => decide (kv.1 = k)) = true then kvs.map (fun kv => if kv.1 = k then (kv.1, v) else kv) else kvs ++ [(k, v)]
def dropK (kvs : List (κ × V)) (k : κ) : List (κ × V) := kvs.filter fun kv => decide (kv.1 ≠ k)

theorem valV_nil {k : κ} : valV ([] : List (κ × V)) k = none := rfl
theorem valV_pos {p : κ × V} {r : List (κ × V)} {k : κ} (e : p.1 = k) : valV (p :: r) k = some p.2 := by simp [valV, List.find?_cons, e]
theorem valV_neg {p : κ × V} {r : List (κ × V)} {k : κ} (e : ¬ p.1 = k) : valV (p :: r) k = valV r k := by simp [valV, List.find?_cons, e]
theorem valV_any (k : κ) : ∀ kvs : List (κ × V), (kvs.any fun kv => decide (kv.1 = k)) = (valV kvs k).isSome
  | [] => rfl
  | p :: r => by
    rw [List.any_cons]
    by_cases e : p.1 = k
    · simp only [valV_pos e, decide_eq_true e, Bool.true_or, Option.isSome_some]
    · rw [valV_neg e, decide_eq_false e, Bool.false_or]; exact valV_any k r
theorem valV_map (k j : κ) (y : V) : ∀ kvs : List (κ × V), valV (kvs.map fun kv => if kv.1 = k then (kv.1, y) else kv) j = (valV kvs j).map fun x => if j = k then y else x
  | [] => rfl
  | p :: r => by
    have ih := valV_map k j y r
    rw [List.map_cons]
    by_cases h : p.1 = k
    · rw [if_pos h]
      by_cases e : p.1 = j
      · rw [valV_pos (p := (p.1, y)) e, valV_pos e, Option.map_some, if_pos (e.symm.trans h)]
      · rw [valV_neg (p := (p.1, y)) e, valV_neg e, ih]
    · rw [if_neg h]
      by_cases e : p.1 = j
      · rw [valV_pos (p := p) e, valV_pos e, Option.map_some, if_neg (fun z => h (e.trans z))]
      · rw [valV_neg (p := p) e, valV_neg e, ih]
theorem valV_snoc (k j : κ) (y : V) : ∀ kvs : List (κ × V), valV kvs k = none → valV (kvs ++ [(k, y)]) j = if j = k then some y else valV kvs j
  | [], _ => by
    by_cases e : k = j
    · rw [if_pos e.symm]; exact valV_pos (p := (k, y)) e
    · rw [if_neg (fun z => e z.symm)]; exact valV_neg (p := (k, y)) e
  | p :: r, hn => by
    rw [List.cons_append]
    have hk : ¬ p.1 = k := fun z => by rw [valV_pos z] at hn; cases hn
    rw [valV_neg hk] at hn
    have ih := valV_snoc k j y r hn
    by_cases e : p.1 = j
    · rw [valV_pos e, valV_pos e, if_neg (fun z => hk (e.trans z))]
    · rw [valV_neg e, valV_neg e, ih]
theorem valV_put (kvs : List (κ × V)) (k j : κ) (y : V) : valV (putK kvs k y) j = if j = k then some y else valV kvs j := by
  unfold putK
  by_cases a : (kvs.any fun kv => decide (kv.1 = k)) = true
  · rw [if_pos a, valV_map]
    rw [valV_any] at a
    by_cases e : j = k
    · obtain ⟨x, hx⟩ := Option.isSome_iff_exists.mp a
      rw [if_pos e, e, hx, Option.map_some, if_pos rfl]
    · rw [if_neg e]
      cases valV kvs j with
      | none => rfl
      | some x => rw [Option.map_some, if_neg e]
  · rw [if_neg a]
    refine valV_snoc k j y kvs ?_
    rw [valV_any] at a
    cases q : valV kvs k with
    | none => rfl
    | some x => rw [q] at a; exact (a rfl).elim
theorem length_putK (kvs : List (κ × V)) (k : κ) (v : V) : (putK kvs k v).length ≤ kvs.length + 1 := by
  unfold putK
  split
  · rw [List.length_map]; omega
  · rw [List.length_append, List.length_cons, List.length_nil]; omega
theorem putK_new {kvs : List (κ × V)} {k : κ} (v : V) (h : valV kvs k = none) : putK kvs k v = kvs ++ [(k, v)] := by
  unfold putK
  rw [valV_any, h]
  exact if_neg (by decide)

theorem RelO.isSome_eq {o : Option V} {u : Option Value} (r : RelO o u) : o.isSome = u.isSome := by
  cases o with
  | none => cases u with
    | none => rfl
    | some _ => exact (show False from r).elim
  | some _ => cases u with
    | none => exact (show False from r).elim
    | some _ => rfl
theorem RelO.getD {o : Option V} {u : Option Value} {d : V} {d' : Value} (r : RelO o u) (rd : RelV d d') : RelV (o.getD d) (u.getD d') := by
  cases o with
  | none => cases u with
    | none => exact rd
    | some _ => exact (show False from r).elim
  | some _ => cases u with
    | none => exact (show False from r).elim
    | some _ => exact r

/-- raw tables of the same keys -/
theorem KV.val {kvs : List (κ × V)} {vs : List (κ × Value)} (r : KV kvs vs) (k : κ) : RelO (valV kvs k) (valueAt vs k) := by
  unfold KV at r
  induction r with
  | nil => exact True.intro
  | @cons p q ps qs h t ih =>
    obtain ⟨h1, h2⟩ := h
    by_cases e : p.1 = k
    · have e' : q.1 = k := h1.symm.trans e
      have b : valueAt (q :: qs) k = some q.2 := by simp [valueAt, List.find?_cons, e']
      rw [valV_pos e, b]; exact h2
    · have e' : ¬ q.1 = k := fun z => e (h1.trans z)
      have b : valueAt (q :: qs) k = valueAt qs k := by simp [valueAt, List.find?_cons, e']
      rw [valV_neg e, b]; exact ih
theorem KV.any {kvs : List (κ × V)} {vs : List (κ × Value)} (r : KV kvs vs) (k : κ) : (kvs.any fun kv => decide (kv.1 = k)) = vs.any fun kv => decide (kv.1 = k) := by
  unfold KV at r
  induction r with
  | nil => rfl
  | cons h t ih => rw [List.any_cons, List.any_cons, ih, h.1]
theorem KV.repl {kvs : List (κ × V)} {vs : List (κ × Value)} (r : KV kvs vs) (k : κ) {y : V} {u : Value} (ry : RelV y u) :
    KV (kvs.map fun kv => if kv.1 = k then (kv.1, y) else kv) (vs.map fun kv => if kv.1 = k then (kv.1, u) else kv) := by
  unfold KV at r ⊢
  induction r with
  | nil => exact .nil
  | @cons p q ps qs h t ih =>
    rw [List.map_cons, List.map_cons]
    refine .cons ?_ ih
    obtain ⟨h1, h2⟩ := h
    by_cases e : p.1 = k
    · rw [if_pos e, if_pos (h1.symm.trans e)]; exact ⟨h1, ry⟩
    · rw [if_neg e, if_neg (fun z => e (h1.trans z))]; exact ⟨h1, h2⟩
theorem KV.put {kvs : List (κ × V)} {vs : List (κ × Value)} (r : KV kvs vs) (k : κ) {y : V} {u : Value} (ry : RelV y u) : KV (putK kvs k y) (stored vs k u) := by
  unfold putK stored
  rw [r.any k]
  by_cases e : (vs.any fun kv => decide (kv.1 = k)) = true
  · rw [if_pos e, if_pos e]; exact r.repl k ry
  · rw [if_neg e, if_neg e]; exact Paired.snoc r ⟨rfl, ry⟩
theorem KV.drop {kvs : List (κ × V)} {vs : List (κ × Value)} (r : KV kvs vs) (k : κ) : KV (dropK kvs k) (without vs k) := by
  unfold KV at r ⊢
  unfold dropK without
  induction r with
  | nil => exact .nil
  | @cons p q ps qs h t ih =>
    obtain ⟨h1, h2⟩ := h
    rw [List.filter_cons, List.filter_cons]
    by_cases e : p.1 = k
    · have a : ¬ decide (p.1 ≠ k) = true := by simp [e]
      have b : ¬ decide (q.1 ≠ k) = true := by simp [h1.symm.trans e]
      rw [if_neg a, if_neg b]; exact ih
    · have e' : ¬ q.1 = k := fun z => e (h1.trans z)
      have a : decide (p.1 ≠ k) = true := by simp [e]
      have b : decide (q.1 ≠ k) = true := by simp [e']
      rw [if_pos a, if_pos b]; exact .cons ⟨h1, h2⟩ ih
theorem KV.keys {kvs : List (κ × V)} {vs : List (κ × Value)} (r : KV kvs vs) : kvs.map (·.1) = vs.map (·.1) := by
  unfold KV at r
  induction r with
  | nil => rfl
  | cons h t ih => rw [List.map_cons, List.map_cons, ih, h.1]
theorem KV.length {kvs : List (κ × V)} {vs : List (κ × Value)} (r : KV kvs vs) : kvs.length = vs.length := Paired.length r
theorem dropK_le (kvs : List (κ × V)) (k : κ) : (dropK kvs k).length ≤ kvs.length := List.length_filter_le _ _
end


/-! ### a tracked dict, its keys ints and texts or tuples of these -/
theorem kV_is {P : Program} {w : World} {k : Key} {u : Value} (r : RelV (kV k) u) : (mixKind P w).is k u = true := by
  cases k with
  | inl i => obtain ⟨t, e⟩ := (show ∃ t, u = Value.int i t from r); subst e; exact mixKind_int P w i t
  | inr x => obtain ⟨t, e⟩ := (show ∃ t, u = Value.str x t from r); subst e; exact mixKind_str P w x t
theorem kV_inj {a b : Key} (e : kV a = kV b) : a = b := by
  cases a with
  | inl i => cases b with
    | inl j => have e' : V.int i = V.int j := e; injection e' with e'; rw [e']
    | inr y => exact nomatch (show V.int i = V.str y from e)
  | inr x => cases b with
    | inl j => exact nomatch (show V.str x = V.int j from e)
    | inr y => have e' : V.str x = V.str y := e; injection e' with e'; rw [e']
theorem kVs_inj : ∀ {a b : List Key}, a.map kV = b.map kV → a = b
  | [], [], _ => rfl
  | [], _ :: _, e => by simp at e
  | _ :: _, [], e => by simp at e
  | x :: xs, y :: ys, e => by
    rw [List.map_cons, List.map_cons] at e
    injection e with e1 e2
    rw [kV_inj e1, kVs_inj e2]
theorem items_are {P : Program} {w : World} : ∀ {ks : List Key} {us : List Value}, Vals (ks.map kV) us → ItemsAre (mixKind P w) ks us
  | [], _, r => by rw [List.map_nil] at r; cases r; exact .nil
  | k :: ks, _, r => by
    rw [List.map_cons] at r
    cases r with
    | cons h t => exact .cons (kV_is h) (items_are t)

/-- raw entries of a dict with tuple keys -/
abbrev KT (H : Hp) : List (List Key × V) → List (List Key × Addr × Value) → Prop := Paired fun p q => p.1 = q.1 ∧ H q.2.1 = some (.tup (p.1.map kV)) ∧ RelV p.2 q.2.2
theorem KT.val {H : Hp} {kvs : List (List Key × V)} {xs : List (List Key × Addr × Value)} (r : KT H kvs xs) (k : List Key) : RelO (valV kvs k) ((atKey xs k).map (·.2)) := by
  induction r with
  | nil => exact True.intro
  | @cons p q ps qs h t ih =>
    obtain ⟨h1, _, h2⟩ := h
    by_cases e : p.1 = k
    · have e' : q.1 = k := h1.symm.trans e
      have b : atKey (q :: qs) k = some q.2 := by simp [atKey, List.find?_cons, e']
      rw [valV_pos e, b]; exact h2
    · have e' : ¬ q.1 = k := fun z => e (h1.trans z)
      have b : atKey (q :: qs) k = atKey qs k := by simp [atKey, List.find?_cons, e']
      rw [valV_neg e, b]; exact ih
theorem KT.repl {H : Hp} {kvs : List (List Key × V)} {xs : List (List Key × Addr × Value)} (r : KT H kvs xs) (k : List Key) {y : V} {u : Value} (ry : RelV y u) :
    KT H (kvs.map fun kv => if kv.1 = k then (kv.1, y) else kv) (xs.map (putAt k u)) := by
  induction r with
  | nil => exact .nil
  | @cons p q ps qs h t ih =>
    rw [List.map_cons, List.map_cons]
    refine .cons ?_ ih
    obtain ⟨h1, h2, h3⟩ := h
    unfold putAt
    by_cases e : p.1 = k
    · rw [if_pos e, if_pos (h1.symm.trans e)]; exact ⟨h1, h2, ry⟩
    · rw [if_neg e, if_neg (fun z => e (h1.trans z))]; exact ⟨h1, h2, h3⟩
theorem KT.put {H : Hp} {kvs : List (List Key × V)} {xs : List (List Key × Addr × Value)} (r : KT H kvs xs) (k : List Key) {b : Addr} {y : V} {u : Value} (hb : H b = some (.tup (k.map kV))) (ry : RelV y u) :
    KT H (putK kvs k y) (storedH xs k b u) := by
  have e : (kvs.any fun kv => decide (kv.1 = k)) = (atKey xs k).isSome := by
    rw [valV_any, (r.val k).isSome_eq, Option.isSome_map]
  unfold putK storedH
  rw [e]
  by_cases q : (atKey xs k).isSome = true
  · rw [if_pos q, if_pos q]; exact r.repl k ry
  · rw [if_neg q, if_neg q]; exact Paired.snoc r ⟨rfl, hb, ry⟩
theorem KT.keeps {H H' : Hp} {kvs : List (List Key × V)} {xs : List (List Key × Addr × Value)} (r : KT H kvs xs) (ht : ∀ b ys, H b = some (.tup ys) → H' b = some (.tup ys)) : KT H' kvs xs :=
  Paired.mapP r fun _ _ z => ⟨z.1, ht _ _ z.2.1, z.2.2⟩

section
variable {P : Program} {w : World} {H : Hp} {h : Heap} {a : Addr}
theorem rd_of {u : HO} (ok : HOk P w H h) (e : Rd H a u) : ObjOk P w H h a u := e.ok ok
theorem dk_rd {kvs : List (Key × V)} (ok : HOk P w H h) (e : Rd H a (.dK kvs)) : kvs.length ≤ sizeLine ∧ (a == sysModules) = false ∧ ∃ vs, KV kvs vs ∧ h.DictOf (mixKind P w) a vs :=
  show ObjOk P w H h a (.dK kvs) from rd_of ok e
theorem dk_of {kvs : List (Key × V)} (ok : HOk P w H h) (e : H a = some (.dK kvs)) : kvs.length ≤ sizeLine ∧ (a == sysModules) = false ∧ ∃ vs, KV kvs vs ∧ h.DictOf (mixKind P w) a vs := dk_rd ok (.inl e)
/-- a tracked tuple of ints and texts is a key -/
theorem key_of {ks : List Key} (ok : HOk P w H h) (e : H a = some (.tup (ks.map kV))) : (tupleKind (mixKind P w)).is h ks a := by
  obtain ⟨_, its, r, o, h1, h2, n, h3⟩ := (show ObjOk P w H h a (.tup (ks.map kV)) from ok a _ e)
  exact ⟨o, its.toArray, n, h1, h2, h3, by simpa using items_are r⟩
theorem dt_rd {kvs : List (List Key × V)} (ok : HOk P w H h) (e : Rd H a (.dT kvs)) : kvs.length ≤ sizeLine ∧ (a == sysModules) = false ∧
    ∃ xs, KT H kvs xs ∧ h.DictOfH (tupleKind (mixKind P w)) a xs := by
  obtain ⟨z, y, xs, r, o, es, ep, h1, h2, h3, h4, h5⟩ := (show ObjOk P w H h a (.dT kvs) from rd_of ok e)
  refine ⟨z, y, xs, r, o, es, ep, h1, h2, h3, h4, fun x hx => ?_, h5⟩
  have all : ∀ {l : List (List Key × V)} {m : List (List Key × Addr × Value)}, KT H l m → ∀ x ∈ m, (tupleKind (mixKind P w)).is h x.1 x.2.1 := by
    intro l m q
    induction q with
    | nil => intro x hx; exact nomatch hx
    | @cons p q ps qs hq t ih =>
      intro x hx
      rcases List.mem_cons.mp hx with e | hx
      · subst e
        exact key_of ok (by rw [← hq.1]; exact hq.2.1)
      · exact ih x hx
  exact all r x hx
theorem dt_of {kvs : List (List Key × V)} (ok : HOk P w H h) (e : H a = some (.dT kvs)) : kvs.length ≤ sizeLine ∧ (a == sysModules) = false ∧
    ∃ xs, KT H kvs xs ∧ h.DictOfH (tupleKind (mixKind P w)) a xs := dt_rd ok (.inl e)
end

/-- what the dict at a holds at the key y -/
def DGet (H : Hp) (a : Addr) (y : V) (r : Option V) : Prop :=
  (∃ kvs k, Rd H a (.dK kvs) ∧ y = kV k ∧ r = valV kvs k) ∨ ∃ kvs k b, Rd H a (.dT kvs) ∧ y = .ref b ∧ H b = some (.tup (k.map kV)) ∧ r = valV kvs k
/-- the heap behind a[y] = v -/
def DPut (H : Hp) (a : Addr) (y v : V) (H' : Hp) : Prop :=
  (∃ kvs k, H a = some (.dK kvs) ∧ y = kV k ∧ kvs.length < sizeLine ∧ H' = upd H a (.dK (putK kvs k v))) ∨
  ∃ kvs k b, H a = some (.dT kvs) ∧ y = .ref b ∧ H b = some (.tup (k.map kV)) ∧ kvs.length < sizeLine ∧ H' = upd H a (.dT (putK kvs k v))
theorem DGet.k {H : Hp} {a : Addr} {kvs : List (Key × V)} {k : Key} (e : H a = some (.dK kvs)) : DGet H a (kV k) (valV kvs k) := .inl ⟨kvs, k, .inl e, rfl, rfl⟩
theorem DGet.t {H : Hp} {a b : Addr} {kvs : List (List Key × V)} {k : List Key} (e : H a = some (.dT kvs)) (eb : H b = some (.tup (k.map kV))) : DGet H a (.ref b) (valV kvs k) := .inr ⟨kvs, k, b, .inl e, rfl, eb, rfl⟩
theorem DPut.k {H : Hp} {a : Addr} {kvs : List (Key × V)} {k : Key} {v : V} (e : H a = some (.dK kvs)) (hl : kvs.length < sizeLine) : DPut H a (kV k) v (upd H a (.dK (putK kvs k v))) := .inl ⟨kvs, k, e, rfl, hl, rfl⟩
theorem DPut.t {H : Hp} {a b : Addr} {kvs : List (List Key × V)} {k : List Key} {v : V} (e : H a = some (.dT kvs)) (eb : H b = some (.tup (k.map kV))) (hl : kvs.length < sizeLine) :
    DPut H a (.ref b) v (upd H a (.dT (putK kvs k v))) := .inr ⟨kvs, k, b, e, rfl, eb, hl, rfl⟩


section
variable {X : Cx} {pins : List (Addr × Obj)} {σ : St} {H : Hp} {s : Shared} {a : Addr} {y v : V} {u r : Value} {o : Option V} {A : Around} {E : Value → Shared → Prop}

theorem Inv.big (I : Inv X pins σ H s) : sysModules < s.heap.objs.size := by
  have h : mainGlobals < s.heap.objs.size := (I.mod.glob.keeps I.bk).lt
  exact Nat.lt_trans (by decide) h

/-- d[y], there -/
theorem d_getItem {Q : Value → Shared → Prop} (hu : A.units + 1 < cLine) (I : Inv X pins σ H s) (g : DGet H a y (some v)) (ry : RelV y u) (h : ∀ w' s', Inv X pins σ H s' → RelV v w' → Q w' s') :
    wpAny (model X.prog X.w) A (getItem (.ref a) u) Q E s := by
  rcases g with ⟨kvs, k, e, ey, l⟩ | ⟨kvs, k, b, e, ey, eb, l⟩
  · subst ey
    obtain ⟨z, hd, vs, rel, dd⟩ := dk_rd I.hok e
    obtain ⟨w', hw, rw'⟩ := RelO.some_of (v := v) (o := valueAt vs k) (by rw [l]; exact rel.val k)
    exact wpAny_getItem_of (kV_is ry) dd.mapOf hw (h w' _ (I.tok _) rw')
  · subst ey
    cases (show u = Value.ref b from ry)
    obtain ⟨z, hd, xs, rel, dd⟩ := dt_rd I.hok e
    obtain ⟨w', hw, rw'⟩ := RelO.some_of (v := v) (o := (atKey xs k).map (·.2)) (by rw [l]; exact rel.val k)
    obtain ⟨p, hp, hp2⟩ := Option.map_eq_some_iff.mp hw
    refine wpAny_getItem_heap (tupleKind_room_in1 hu) (key_of I.hok eb) dd hp ?_
    rw [hp2]
    exact h w' _ (I.tok _) rw'
/-- y in d -/
theorem d_in {Q : Value → Shared → Prop} (hu : A.units + 1 < cLine) (I : Inv X pins σ H s) (g : DGet H a y o) (ry : RelV y u) (h : ∀ s', Inv X pins σ H s' → Q (.bool o.isSome) s') :
    wpAny (model X.prog X.w) A (compareOp .In u (.ref a)) Q E s := by
  rcases g with ⟨kvs, k, e, ey, l⟩ | ⟨kvs, k, b, e, ey, eb, l⟩
  · subst ey
    obtain ⟨z, hd, vs, rel, dd⟩ := dk_rd I.hok e
    refine wpAny_in_of (kV_is ry) hd dd.mapOf ?_
    rw [← (rel.val k).isSome_eq, ← l]
    exact h _ (I.tok _)
  · subst ey
    cases (show u = Value.ref b from ry)
    obtain ⟨z, hd, xs, rel, dd⟩ := dt_rd I.hok e
    refine wpAny_in_heap (tupleKind_room_in1 hu) (key_of I.hok eb) hd dd ?_
    have q := (rel.val k).isSome_eq
    rw [Option.isSome_map] at q
    rw [← q, ← l]
    exact h _ (I.tok _)
theorem d_notIn {Q : Value → Shared → Prop} (hu : A.units + 1 < cLine) (I : Inv X pins σ H s) (g : DGet H a y o) (ry : RelV y u) (h : ∀ s', Inv X pins σ H s' → Q (.bool (!o.isSome)) s') :
    wpAny (model X.prog X.w) A (compareOp .NotIn u (.ref a)) Q E s := by
  rcases g with ⟨kvs, k, e, ey, l⟩ | ⟨kvs, k, b, e, ey, eb, l⟩
  · subst ey
    obtain ⟨z, hd, vs, rel, dd⟩ := dk_rd I.hok e
    refine wpAny_notIn_of (kV_is ry) hd dd.mapOf ?_
    rw [← (rel.val k).isSome_eq, ← l]
    exact h _ (I.tok _)
  · subst ey
    cases (show u = Value.ref b from ry)
    obtain ⟨z, hd, xs, rel, dd⟩ := dt_rd I.hok e
    refine wpAny_notIn_heap (tupleKind_room_in1 hu) (key_of I.hok eb) hd dd ?_
    have q := (rel.val k).isSome_eq
    rw [Option.isSome_map] at q
    rw [← q, ← l]
    exact h _ (I.tok _)
/-- a dict's object is replaced -/
theorem d_write {h' : Heap} {t' : Nat} {ob : HO} (I : Inv X pins σ H s) (mu : Mut (H a)) (hs : Heap.SameBut a s.heap h') (he : ∃ q, h'.get? a = some q) (new : ObjOk X.prog X.w (upd H a ob) h' a ob) :
    Inv X pins σ (upd H a ob) { s with heap := h', toks := t' } :=
  I.write (x := a) (e := a) mu (.inl rfl) (fun b q hb z => (hs.2 b hb).trans z) he new
theorem dk_new {P : Program} {w : World} {H' : Hp} {h' : Heap} {kvs : List (Key × V)} {vs : List (Key × Value)} (z : kvs.length ≤ sizeLine) (hd : (a == sysModules) = false) (rel : KV kvs vs) (dd : h'.DictOf (mixKind P w) a vs) :
    ObjOk P w H' h' a (.dK kvs) := ⟨z, hd, vs, rel, dd⟩
/-- d[y] = v -/
theorem d_setItem {H' : Hp} {Q : Unit → Shared → Prop} (hu : A.units + 1 < cLine) (I : Inv X pins σ H s) (g : DPut H a y v H') (ry : RelV y u) (rv : RelV v r) (h : ∀ s', Inv X pins σ H' s' → Q () s') :
    wpAny (model X.prog X.w) A (setItem (.ref a) u r) Q E s := by
  rcases g with ⟨kvs, k, e, ey, l, eH⟩ | ⟨kvs, k, b, e, ey, eb, l, eH⟩
  · subst ey eH
    obtain ⟨z, hd, vs, rel, dd⟩ := dk_of I.hok e
    have hz : vs.length ≤ sizeLine := by rw [← rel.length]; exact z
    have hl : (putK kvs k v).length ≤ sizeLine := by have := length_putK kvs k v; omega
    refine wpAny_setItem_pairs (hsz := hz) (kV_is ry) dd fun h' dd' hs => h _ ?_
    have he : ∃ q, h'.get? a = some q := let ⟨q, _, _, hq, _⟩ := dd'; ⟨q, hq⟩
    exact d_write I (by rw [e]; exact True.intro) hs he (dk_new hl hd (rel.put k rv) dd')
  · subst ey eH
    cases (show u = Value.ref b from ry)
    obtain ⟨z, hd, xs, rel, dd⟩ := dt_of I.hok e
    have hz : xs.length ≤ sizeLine := by rw [← Paired.length rel]; exact z
    have hl : (putK kvs k v).length ≤ sizeLine := by have := length_putK kvs k v; omega
    refine wpAny_setItem_heap (hsz := hz) (tupleKind_room_in1 hu) (key_of I.hok eb) dd fun h' dd' hs => h _ ?_
    obtain ⟨q, es, ep, hq, h2, h3, h4, _, h5⟩ := dd'
    refine d_write I (by rw [e]; exact True.intro) hs ⟨q, hq⟩ ⟨hl, hd, _, (rel.put k eb rv).keeps fun c ys ec => ?_, q, es, ep, hq, h2, h3, h4, h5⟩
    rw [upd_ne (ne_of ec e (fun z => nomatch z))]
    exact ec
end

section
variable {X : Cx} {pins : List (Addr × Obj)} {σ : St} {H : Hp} {s : Shared} {a : Addr} {kvs : List (Key × V)} {k : Key} {u : Value} {A : Around} {E : Value → Shared → Prop}
/-- del d[k] -/
theorem d_delItem {Q : Unit → Shared → Prop} (I : Inv X pins σ H s) (e : H a = some (.dK kvs)) (ry : RelV (kV k) u) (l : (valV kvs k).isSome = true) (h : ∀ s', Inv X pins σ (upd H a (.dK (dropK kvs k))) s' → Q () s') :
    wpAny (model X.prog X.w) A (delItem (.ref a) u) Q E s := by
  obtain ⟨z, hd, vs, rel, dd⟩ := dk_of I.hok e
  refine wpAny_delItem_slot dd.typeIs (by decide) PySem.F.slot_dict_delitem
    (call_meetsIn PySem.F.slot_dict_delitem dd.typeIs PySem.F.entry_dict_delitem (PySem.F.args_dict_delitem_2 _ _) (meets_dict_delitem_pairs (mixKind X.prog X.w) a (kV_is ry)) ⟨vs, dd, by rw [← rel.length]; exact z, by rw [← (rel.val k).isSome_eq]; exact l, fun h' dd' hs => h _ ?_⟩)
  have he : ∃ q, h'.get? a = some q := let ⟨q, _, _, hq, _⟩ := dd'; ⟨q, hq⟩
  exact d_write I (by rw [e]; exact True.intro) hs he (dk_new (Nat.le_trans (dropK_le kvs k) z) hd (rel.drop k) dd')
/-- d.pop(k[, x]), there -/
theorem d_pop {v : V} {more : List Value} {Q : Value → Shared → Prop} (I : Inv X pins σ H s) (e : H a = some (.dK kvs)) (ry : RelV (kV k) u) (l : valV kvs k = some v) (hm : more = [] ∨ ∃ x, more = [x])
    (h : ∀ w' s', Inv X pins σ (upd H a (.dK (dropK kvs k))) s' → RelV v w' → Q w' s') : wpAny (model X.prog X.w) A (call (.builtin "dict.pop") (.ref a :: u :: more)) Q E s := by
  obtain ⟨z, hd, vs, rel, dd⟩ := dk_of I.hok e
  obtain ⟨w', hw, rw'⟩ := RelO.some_of (v := v) (o := valueAt vs k) (by rw [← l]; exact rel.val k)
  have hp : (keyPart u).isSome = true := by
    cases k with
    | inl i => obtain ⟨t, q⟩ := (show ∃ t, u = Value.int i t from ry); subst q; rfl
    | inr x => obtain ⟨t, q⟩ := (show ∃ t, u = Value.str x t from ry); subst q; rfl
  have ha : argsOk "dict.pop" ⟨.ref a :: u :: more, []⟩ := by
    rcases hm with q | ⟨x, q⟩
    · subst q; exact PySem.F.args_dict_pop_2 _ _
    · subst q; exact PySem.F.args_dict_pop_3 _ _ _
  refine call_meetsIn PySem.F.slot_dict_pop dd.typeIs PySem.F.entry_dict_pop ha (meets_dict_pop_there (mixKind X.prog X.w) a (kV_is ry) more hm hp)
    ⟨vs, w', dd, by rw [← rel.length]; exact z, hw, fun h' dd' hs => h w' _ ?_ rw'⟩
  have he : ∃ q, h'.get? a = some q := let ⟨q, _, _, hq, _⟩ := dd'; ⟨q, hq⟩
  exact d_write I (by rw [e]; exact True.intro) hs he (dk_new (Nat.le_trans (dropK_le kvs k) z) hd (rel.drop k) dd')
/-- d.pop(k, x), not there -/
theorem d_popD {r : Value} {Q : Value → Shared → Prop} (I : Inv X pins σ H s) (e : H a = some (.dK kvs)) (ry : RelV (kV k) u) (l : valV kvs k = none) (h : ∀ s', Inv X pins σ H s' → Q r s') :
    wpAny (model X.prog X.w) A (call (.builtin "dict.pop") [.ref a, u, r]) Q E s := by
  obtain ⟨z, hd, vs, rel, dd⟩ := dk_of I.hok e
  have hn : valueAt vs k = none := RelO.none_of (by rw [← l]; exact rel.val k)
  have hp : (keyPart u).isSome = true := by
    cases k with
    | inl i => obtain ⟨t, q⟩ := (show ∃ t, u = Value.int i t from ry); subst q; rfl
    | inr x => obtain ⟨t, q⟩ := (show ∃ t, u = Value.str x t from ry); subst q; rfl
  exact call_meetsIn PySem.F.slot_dict_pop dd.typeIs PySem.F.entry_dict_pop (PySem.F.args_dict_pop_3 _ _ _) (meets_dict_pop_default (mixKind X.prog X.w) a (kV_is ry) hd hp r) ⟨vs, dd, hn, h _ (I.tok _)⟩
/-- d.clear() -/
theorem d_clear {Q : Value → Shared → Prop} (I : Inv X pins σ H s) (e : H a = some (.dK kvs)) (h : ∀ s', Inv X pins σ (upd H a (.dK [])) s' → Q .none s') : wpAny (model X.prog X.w) A (call (.builtin "dict.clear") [.ref a]) Q E s := by
  obtain ⟨z, hd, vs, rel, dd⟩ := dk_of I.hok e
  refine call_meetsIn PySem.F.slot_dict_clear dd.typeIs PySem.F.entry_dict_clear (PySem.F.args_dict_clear_1 _) (meets_dict_clear (mixKind X.prog X.w) a) ⟨vs, dd, by rw [← rel.length]; exact z, fun h' dd' hs => h _ ?_⟩
  have he : ∃ q, h'.get? a = some q := let ⟨q, _, _, hq, _⟩ := dd'; ⟨q, hq⟩
  exact d_write (t' := s.toks) I (by rw [e]; exact True.intro) hs he (dk_new (Nat.zero_le _) hd .nil dd')
/-- len(d) -/
theorem d_len {Q : Value → Shared → Prop} (I : Inv X pins σ H s) (e : Rd H a (.dK kvs)) (h : ∀ t s', Inv X pins σ H s' → Q (.int kvs.length t) s') : wpAny (model X.prog X.w) A (call (.builtin "len") [.ref a]) Q E s := by
  obtain ⟨z, hd, vs, rel, dd⟩ := dk_rd I.hok e
  refine call_len_dict hd dd (by rw [← rel.length]; rw [sizeLine_eq] at z; omega) ?_
  rw [← rel.length]
  exact h _ _ (I.tok _)
/-- if d -/
theorem d_truth {Q : Bool → Shared → Prop} (I : Inv X pins σ H s) (e : Rd H a (.dK kvs)) (h : ∀ s', Inv X pins σ H s' → Q (!kvs.isEmpty) s') : wpAny (model X.prog X.w) A (truthy (.ref a)) Q E s := by
  obtain ⟨z, hd, vs, rel, dd⟩ := dk_rd I.hok e
  refine wpAny_truthy_dict hd dd (by rw [← rel.length]; rw [sizeLine_eq] at z; omega) ?_
  have q : kvs.isEmpty = vs.isEmpty := by cases rel <;> rfl
  rw [← q]
  exact h _ (I.tok _)
end


/-! ### readings and rules -/
/-- the element of a subscription, not a slice -/
def NoSl (i : Expr) : Prop := ∀ ov iv, subscripted i false ov iv = operate [ov, iv] (getItem ov iv)
theorem subD_of {prog : Program} {w : World} {A : Around} {E : Value → Shared → Prop} {s : Shared} {env : Env} {value slice : Expr} {pos : Pos} {T id : String} {Q : Value → Shared → Prop}
    (hl : typeLookup (.type T) "__getitem__" = pure (some (.builtin id))) (hs : NoSl slice)
    (h : wpAny (model prog w) A (eval value env) (fun o s₁ => wpAny (model prog w) A (eval slice env) (fun i s₂ => s₂.TypeIs o T ∧ wpAny (model prog w) A (getItem o i) Q E s₂) E s₁) E s) :
    wpAny (model prog w) A (eval (.Subscript value slice pos) env) Q E s := by
  refine Subscript_ (wpAny_mono h (fun o s₁ h₁ => wpAny_mono h₁ (fun i s₂ h₂ => ?_) fun _ _ x => x) fun _ _ x => x)
  obtain ⟨hT, h₂⟩ := h₂
  unfold subscriptTail
  refine wpAny_bind ?_
  rw [getitemInPython_of_ne hT.not_modules]
  refine wpAny_bind (wpAny_specialOf hT hl ?_)
  have fin : wpAny (model prog w) A (subscripted slice false o i) (fun r s₃ => wpAny (model prog w) A (letTemporaryGo value o r >>= fun _ => pure r) Q E s₃) E s₂ := by
    rw [hs o i]
    exact wpAny_operating (wpAny_mono h₂ (fun r s₃ h₃ => wpAny_bind (wpAny_letTemporaryGo (wpAny_pure h₃))) fun _ _ x => x)
  first
    | exact wpAny_pure (wpAny_bind fin)
    | exact wpAny_bind (wpAny_pure (wpAny_bind fin))
    | exact wpAny_bind fin

theorem dict_typeIs {X : Cx} {pins : List (Addr × Obj)} {σ : St} {H : Hp} {s : Shared} {a : Addr} {y : V} {o : Option V} (I : Inv X pins σ H s) (g : DGet H a y o) : s.TypeIs (.ref a) "dict" := by
  rcases g with ⟨kvs, k, e, _, _⟩ | ⟨kvs, k, b, e, _, _, _⟩
  · obtain ⟨_, _, vs, _, dd⟩ := dk_rd I.hok e
    exact dd.typeIs
  · obtain ⟨_, _, xs, _, dd⟩ := dt_rd I.hok e
    exact dd.typeIs
theorem dict_noDict {X : Cx} {pins : List (Addr × Obj)} {σ : St} {H : Hp} {s : Shared} {a : Addr} {y : V} {o : Option V} (I : Inv X pins σ H s) (g : DGet H a y o) :
    ∀ b, Value.ref a = .ref b → ∃ ob, s.heap.get? b = some ob ∧ ob.dict = none := fun b q => by
  cases q
  rcases g with ⟨kvs, k, e, _, _⟩ | ⟨kvs, k, b, e, _, _, _⟩
  · obtain ⟨_, _, vs, _, ob, _, _, h1, h2, _⟩ := dk_rd I.hok e
    exact ⟨ob, h1, h2.2.1⟩
  · obtain ⟨_, _, xs, _, ob, _, _, h1, h2, _⟩ := dt_rd I.hok e
    exact ⟨ob, h1, h2.2.1⟩

/-- d[y] -/
def tDGet (td ty : TE) : TE := fun σ H Q => td σ H fun x H1 => ty σ H1 fun y H2 => ∃ a v, x = .ref a ∧ DGet H2 a y (some v) ∧ Q v H2
/-- y in d, y not in d -/
def tDIn (ty td : TE) : TE := fun σ H Q => ty σ H fun y H1 => td σ H1 fun x H2 => ∃ a o, x = .ref a ∧ DGet H2 a y o ∧ Q (.bl o.isSome) H2
def tDNotIn (ty td : TE) : TE := fun σ H Q => ty σ H fun y H1 => td σ H1 fun x H2 => ∃ a o, x = .ref a ∧ DGet H2 a y o ∧ Q (.bl (!o.isSome)) H2
/-- d[y] = v -/
def sDPut (td ty tv : TE) : TS := fun D σ H => tv σ H fun v H1 => td σ H1 fun x H2 => ty σ H2 fun y H3 => ∃ a H4, x = .ref a ∧ DPut H3 a y v H4 ∧ D.nx σ H4
/-- d[y] op= v -/
def sDAug (td ty tv : TE) (rd : V → V → Hp → VK → Prop) : TS := fun D σ H => td σ H fun x H1 => ty σ H1 fun y H2 => ∃ a v, x = .ref a ∧ DGet H2 a y (some v) ∧
  tv σ H2 fun y2 H3 => rd v y2 H3 fun z H4 => ∃ H5, DPut H4 a y z H5 ∧ D.nx σ H5
/-- del d[y] -/
def sDDel (td ty : TE) : TS := fun D σ H => td σ H fun x H1 => ty σ H1 fun y H2 => ∃ a kvs k, x = .ref a ∧ H2 a = some (.dK kvs) ∧ y = kV k ∧ (valV kvs k).isSome = true ∧ D.nx σ (upd H2 a (.dK (dropK kvs k)))

section
variable {X : Cx} {o i e value : Expr} {pos pos' tpos : Pos} {td ty tv : TE}
theorem pe_dget (hu : X.A.units + 1 < cLine) (ho : PE X o td) (hi : PE X i ty) (hs : NoSl i) : PE X (.Subscript o i pos) (tDGet td ty) := by
  intro pins s σ H Q I h
  refine subD_of PySem.F.slot_dict_getitem.lookup hs (thn (ho pins s σ H _ I h) fun u s1 ⟨x, H1, I1, rx, q1⟩ => thn (hi pins s1 σ H1 _ I1 q1) fun iv s2 ⟨y, H2, I2, ry, a, v, ex, g, q2⟩ => ?_)
  subst ex
  obtain rfl : u = Value.ref a := rx
  exact ⟨dict_typeIs I2 g, d_getItem hu I2 g ry fun w' s3 I3 rw' => ⟨v, H2, I3, rw', q2⟩⟩
theorem pc_din (hu : X.A.units + 1 < cLine) (hi : PE X i ty) (ho : PE X o td) : PC X .In i o (tDIn ty td) := by
  intro pins s σ H Q I h
  refine thn (hi pins s σ H _ I h) fun iv s1 ⟨y, H1, I1, ry, q1⟩ => thn (ho pins s1 σ H1 _ I1 q1) fun u s2 ⟨x, H2, I2, rx, a, ov, ex, g, q2⟩ => ?_
  subst ex
  obtain rfl : u = Value.ref a := rx
  exact d_in hu I2 g ry fun s3 I3 => ⟨.bl ov.isSome, H2, I3, rfl, q2⟩
theorem pc_dnotin (hu : X.A.units + 1 < cLine) (hi : PE X i ty) (ho : PE X o td) : PC X .NotIn i o (tDNotIn ty td) := by
  intro pins s σ H Q I h
  refine thn (hi pins s σ H _ I h) fun iv s1 ⟨y, H1, I1, ry, q1⟩ => thn (ho pins s1 σ H1 _ I1 q1) fun u s2 ⟨x, H2, I2, rx, a, ov, ex, g, q2⟩ => ?_
  subst ex
  obtain rfl : u = Value.ref a := rx
  exact d_notIn hu I2 g ry fun s3 I3 => ⟨.bl (!ov.isSome), H2, I3, rfl, q2⟩
theorem ps_dput (hu : X.A.units + 1 < cLine) (ho : PE X o td) (hi : PE X i ty) (hv : PE X value tv) (hs : swapsWith value (some (.Subscript o i pos')) pos.line X.env = pure false) :
    PS X (.Assign [.Subscript o i pos'] value pos) (sDPut td ty tv) := by
  intro pins s σ H D I h
  refine wpAny_Assign_Subscript (thn (hv pins s σ H _ I h) fun r s1 ⟨v, H1, I1, rv, q1⟩ => thn (ho pins s1 σ H1 _ I1 q1) fun u s2 ⟨x, H2, I2, rx, q2⟩ => thn (hi pins s2 σ H2 _ I2 q2) fun iv s3 ⟨y, H3, I3, ry, a, H4, ex, g, q3⟩ => ?_) hs
  subst ex
  obtain rfl : u = Value.ref a := rx
  exact d_setItem hu I3 g ry rv fun s4 I4 => ⟨σ, H4, I4, q3⟩
theorem ps_daug {op : Operator} {rd : V → V → Hp → VK → Prop} (hu : X.A.units + 1 < cLine) (ho : PE X o td) (hi : PE X i ty) (hv : PE X value tv) (hop : InOp X op rd)
    (ha : ∀ ov iv new, augStore i ov iv new = (do holding [new, ov, iv] (setItem ov iv new); release [new, ov, iv] []; pure .next)) : PS X (.AugAssign (.Subscript o i tpos) op value pos) (sDAug td ty tv rd) := by
  intro pins s σ H D I h
  refine wpAny_AugAssign_SubscriptAny (thn (ho pins s σ H _ I h) fun u s1 ⟨x, H1, I1, rx, q1⟩ => thn (hi pins s1 σ H1 _ I1 q1) fun iv s2 ⟨y, H2, I2, ry, a, v, ex, g, q2⟩ => ?_) ha
  subst ex
  obtain rfl : u = Value.ref a := rx
  refine d_getItem hu I2 g ry fun w' s3 I3 rw' => thn (hv pins s3 σ H2 _ I3 q2) fun w2 s4 ⟨y2, H3, I4, ry2, q3⟩ => thn (hop pins s4 σ H3 v y2 w' w2 _ I4 rw' ry2 q3) fun w3 s5 ⟨z, H4, I5, rz, H5, g5, q4⟩ => ?_
  exact d_setItem hu I5 g5 ry rz fun s6 I6 => ⟨σ, H5, I6, q4⟩
theorem ps_ddel (ho : PE X o td) (hi : PE X i ty) : PS X (.Delete [.Subscript o i tpos] pos) (sDDel td ty) := by
  intro pins s σ H D I h
  refine wpAny_Delete (wpAny_deleteEach_cons (wpAny_delete_Subscript (thn (ho pins s σ H _ I h) fun u s1 ⟨x, H1, I1, rx, q1⟩ => thn (hi pins s1 σ H1 _ I1 q1) fun iv s2 ⟨y, H2, I2, ry, a, kvs, k, ex, e, ey, l, q2⟩ => ?_)))
  subst ex ey
  obtain rfl : u = Value.ref a := rx
  exact d_delItem I2 e ry l fun s3 I3 => wpAny_deleteEach_nil ⟨σ, _, I3, q2⟩
end


/-! ### displays -/
theorem dk_empty {P : Program} {w : World} {H : Hp} (h : Heap) (hb : sysModules < h.objs.size) : ObjOk P w H (h.push { cls := .type "dict", data := .dict #[] }) h.objs.size (.dK []) :=
  ⟨Nat.zero_le _, beq_eq_false_iff_ne.mpr (Ne.symm (Nat.ne_of_lt hb)), [], .nil, Heap.DictOf.new h⟩
theorem dt_empty {P : Program} {w : World} {H : Hp} (h : Heap) (hb : sysModules < h.objs.size) : ObjOk P w H (h.push { cls := .type "dict", data := .dict #[] }) h.objs.size (.dT []) :=
  ⟨Nat.zero_le _, beq_eq_false_iff_ne.mpr (Ne.symm (Nat.ne_of_lt hb)), [], .nil, _, #[], 0, Heap.get?_push_size _ rfl, ⟨rfl, rfl, rfl⟩, rfl, rfl, List.nodup_nil⟩
/-- {}, to be a dict of the kind that is wanted -/
def tDNewK : TE := fun _ H Q => ∀ p, H p = none → Q (.ref p) (upd H p (.dK []))
def tDNewT : TE := fun _ H Q => ∀ p, H p = none → Q (.ref p) (upd H p (.dT []))
section
variable {X : Cx} {pos : Pos}
theorem pe_dnewK : PE X (.Dict [] [] pos) tDNewK := fun pins s σ H Q I h =>
  wpAny_Dict_empty ⟨.ref s.heap.objs.size, _, I.laid (a := s.heap.objs.size) (o := .dK []) (t' := s.toks) (fun _ _ q => Heap.get?_push_of_some _ q) (Nat.le_refl _) (dk_empty s.heap I.big), rfl, h _ (I.hok.fresh (Nat.le_refl _))⟩
theorem pe_dnewT : PE X (.Dict [] [] pos) tDNewT := fun pins s σ H Q I h =>
  wpAny_Dict_empty ⟨.ref s.heap.objs.size, _, I.laid (a := s.heap.objs.size) (o := .dT []) (t' := s.toks) (fun _ _ q => Heap.get?_push_of_some _ q) (Nat.le_refl _) (dt_empty s.heap I.big), rfl, h _ (I.hok.fresh (Nat.le_refl _))⟩
end

/-- the pairs of a display, from the left -/
def tPairs : List (TE × TE) → St → Hp → (List (V × V) → Hp → Prop) → Prop
  | [], _, H, Q => Q [] H
  | (tk, tv) :: r, σ, H, Q => tk σ H fun x H1 => tv σ H1 fun y H2 => tPairs r σ H2 fun ps H3 => Q ((x, y) :: ps) H3
abbrev VV : List (V × V) → List (Value × Value) → Prop := Paired fun p q => RelV p.1 q.1 ∧ RelV p.2 q.2
def PPs (X : Cx) (pos : Pos) (keys : List (Option Expr)) (values : List Expr) (trs : List (TE × TE)) : Prop :=
  ∀ (pins : List (Addr × Obj)) (s : Shared) (σ : St) (H : Hp) (Q : List (V × V) → Hp → Prop), Inv X pins σ H s → tPairs trs σ H Q →
    wpAny (model X.prog X.w) X.A (evalPairs (pairTrees keys values X.env pos)) (fun vs s' => ∃ ps H', Inv X pins σ H' s' ∧ VV ps vs ∧ Q ps H') X.xe s
theorem pps_nil {X : Cx} {pos : Pos} : PPs X pos [] [] [] := fun pins s σ H Q I h => pairTrees_nil_walk ⟨[], H, I, .nil, h⟩
theorem pps_cons {X : Cx} {pos : Pos} {k v : Expr} {ks : List (Option Expr)} {vs : List Expr} {tk tv : TE} {trs : List (TE × TE)} (hk : PE X k tk) (hv : PE X v tv) (hr : PPs X pos ks vs trs) :
    PPs X pos (some k :: ks) (v :: vs) ((tk, tv) :: trs) := fun pins s σ H Q I h =>
  pairTrees_cons_walk (thn (hk pins s σ H _ I h) fun u s1 ⟨x, H1, I1, rx, q1⟩ => thn (hv pins s1 σ H1 _ I1 q1) fun w2 s2 ⟨y, H2, I2, ry, q2⟩ =>
    thn (hr pins s2 σ H2 _ I2 q2) fun ws s3 ⟨ps, H3, I3, rel, q3⟩ => ⟨(x, y) :: ps, H3, I3, .cons ⟨rx, ry⟩ rel, q3⟩)

def mergeK (kvs more : List (Key × V)) : List (Key × V) := more.foldl (fun acc kv => putK acc kv.1 kv.2) kvs
theorem KV.merge : ∀ {more : List (Key × V)} {rs : List (Key × Value)} {kvs : List (Key × V)} {vs : List (Key × Value)}, KV more rs → KV kvs vs → KV (mergeK kvs more) (merged vs rs) := by
  intro more rs kvs vs r
  unfold KV at r
  induction r generalizing kvs vs with
  | nil => intro q; exact q
  | @cons p q ps qs h t ih =>
    intro r0
    have e : KV (putK kvs p.1 p.2) (stored vs q.1 q.2) := by
      have := r0.put p.1 h.2
      rw [← h.1]; exact this
    exact ih e
theorem length_mergeK : ∀ (more kvs : List (Key × V)), (mergeK kvs more).length ≤ kvs.length + more.length
  | [], kvs => by show kvs.length ≤ kvs.length + 0; omega
  | p :: r, kvs => by
    have h1 := length_mergeK r (putK kvs p.1 p.2)
    have h2 := length_putK kvs p.1 p.2
    show (mergeK (putK kvs p.1 p.2) r).length ≤ _
    rw [List.length_cons]; omega
theorem carries_of {P : Program} {w : World} : ∀ {kvs : List (Key × V)} {ws : List (Value × Value)}, VV (kvs.map fun kv => (kV kv.1, kv.2)) ws → ∃ rs, Carries (mixKind P w) ws rs ∧ KV kvs rs
  | [], _, r => by rw [List.map_nil] at r; cases r; exact ⟨[], True.intro, .nil⟩
  | p :: kvs, _, r => by
    rw [List.map_cons] at r
    cases r with
    | @cons a b as bs h t =>
      obtain ⟨rs, c, q⟩ := carries_of (P := P) (w := w) t
      obtain ⟨b1, b2⟩ := b
      exact ⟨(p.1, b2) :: rs, ⟨kV_is h.1, rfl, c⟩, .cons ⟨rfl, h.2⟩ q⟩
/-- {k: v, ..} with keys ints and texts; the new dict stands empty while the pairs are made -/
def tDisp (trs : List (TE × TE)) : TE := fun σ H Q => ∀ p, H p = none → tPairs trs σ (upd H p (.dK [])) fun ps H2 => H2 p = some (.dK []) ∧ ∃ kvs : List (Key × V), ps = kvs.map (fun kv => (kV kv.1, kv.2)) ∧ kvs.length ≤ 15 ∧ Q (.ref p) (upd H2 p (.dK (mergeK [] kvs)))
theorem pe_disp {X : Cx} {pos : Pos} {keys : List (Option Expr)} {values : List Expr} {trs : List (TE × TE)} (h : PPs X pos keys values trs) (hall : keys.all (·.isSome) = true) (hl : keys.length = values.length) (h0 : keys ≠ [])
    (h15 : keys.length ≤ 15) : PE X (.Dict keys values pos) (tDisp trs) := by
  intro pins s σ H Q I q
  have hn := I.hok.fresh (Nat.le_refl s.heap.objs.size)
  have I1 := I.laid (a := s.heap.objs.size) (o := .dK []) (h' := s.heap.push { cls := .type "dict", data := .dict #[] }) (t' := s.toks) (fun _ _ q => Heap.get?_push_of_some _ q) (Nat.le_refl _) (dk_empty s.heap I.big)
  refine wpAny_Dict_walk (knd := mixKind X.prog X.w) hall hl h0 h15 (thn (h pins _ σ _ _ I1 (q _ hn)) fun ws s2 ⟨ps, H2, I2, rel, e, kvs, ep, lk, q2⟩ => ?_)
  subst ep
  obtain ⟨rs, c, rk⟩ := carries_of (P := X.prog) (w := X.w) rel
  obtain ⟨z, hd, vs0, r0, dd⟩ := dk_of I2.hok e
  cases r0
  refine ⟨rs, c, dd, fun h' dd' hs => ⟨.ref s.heap.objs.size, _, ?_, rfl, q2⟩⟩
  have hz : (mergeK [] kvs).length ≤ sizeLine := by
    have h1 := length_mergeK kvs []
    rw [List.length_nil] at h1
    rw [sizeLine_eq]; omega
  have he : ∃ q, h'.get? s.heap.objs.size = some q := let ⟨q, _, _, hq, _⟩ := dd'; ⟨q, hq⟩
  exact d_write I2 (by rw [e]; exact True.intro) hs he (dk_new hz hd (rk.merge .nil) dd')


/-! ### methods -/
/-- a method call o.m(e) of a built-in, with one argument: what must be seen of the text -/
structure M1 (X : Cx) (o : Expr) (m : Str) (apos : Pos) (e : Expr) (cpos : Pos) : Prop where
  base : attributeBase o m X.env (eval o X.env) = eval o X.env
  few : ((backTo cpos (starEach [e] X.env)).all (fun x => !x.1) && (backToKw cpos (keywordEach [] X.env)).all (fun x => x.1.isSome)
    && decide (([e] : List Expr).length + ([] : List Keyword).length + (if ([] : List Keyword).isEmpty then 0 else 1) < 30)) = true
  line : (apos.endLine == cpos.line) = true
  trees : backTo cpos (starEach [e] X.env) = [(false, eval e X.env)]
structure M2 (X : Cx) (o : Expr) (m : Str) (apos : Pos) (e f : Expr) (cpos : Pos) : Prop where
  base : attributeBase o m X.env (eval o X.env) = eval o X.env
  few : ((backTo cpos (starEach [e, f] X.env)).all (fun x => !x.1) && (backToKw cpos (keywordEach [] X.env)).all (fun x => x.1.isSome)
    && decide (([e, f] : List Expr).length + ([] : List Keyword).length + (if ([] : List Keyword).isEmpty then 0 else 1) < 30)) = true
  line : (apos.endLine == cpos.line) = true
  trees : backTo cpos (starEach [e, f] X.env) = [(false, eval e X.env), (false, eval f X.env)]

/-- a is a dict, whatever its keys -/
def IsD (H : Hp) (a : Addr) : Prop := (∃ kvs, Rd H a (.dK kvs)) ∨ ∃ kvs, Rd H a (.dT kvs)
theorem isD_at {X : Cx} {pins : List (Addr × Obj)} {σ : St} {H : Hp} {s : Shared} {a : Addr} (I : Inv X pins σ H s) (d : IsD H a) :
    s.TypeIs (.ref a) "dict" ∧ (∀ b, Value.ref a = .ref b → ∃ ob, s.heap.get? b = some ob ∧ ob.dict = none) ∧ (a == sysModules) = false := by
  rcases d with ⟨kvs, e⟩ | ⟨kvs, e⟩
  · obtain ⟨_, hd, vs, _, dd⟩ := dk_rd I.hok e
    refine ⟨dd.typeIs, fun b q => ?_, hd⟩
    cases q
    obtain ⟨ob, _, _, h1, h2, _⟩ := dd
    exact ⟨ob, h1, h2.2.1⟩
  · obtain ⟨_, hd, xs, _, dd⟩ := dt_rd I.hok e
    refine ⟨dd.typeIs, fun b q => ?_, hd⟩
    cases q
    obtain ⟨ob, _, _, h1, h2, _⟩ := dd
    exact ⟨ob, h1, h2.2.1⟩

section
variable {X : Cx} {pins : List (Addr × Obj)} {σ : St} {H : Hp} {s : Shared} {a : Addr} {y d : V} {u r : Value} {o : Option V} {A : Around} {E : Value → Shared → Prop}
/-- d.get(y) -/
theorem d_get1 {Q : Value → Shared → Prop} (hu : A.units + 1 < cLine) (I : Inv X pins σ H s) (g : DGet H a y o) (ry : RelV y u) (h : ∀ w' s', Inv X pins σ H s' → RelV (o.getD .non) w' → Q w' s') :
    wpAny (model X.prog X.w) A (call (.builtin "dict.get") [.ref a, u]) Q E s := by
  rcases g with ⟨kvs, k, e, ey, l⟩ | ⟨kvs, k, b, e, ey, eb, l⟩
  · subst ey
    obtain ⟨z, hd, vs, rel, dd⟩ := dk_rd I.hok e
    refine call_meetsIn PySem.F.slot_dict_get dd.typeIs PySem.F.entry_dict_get (PySem.F.args_dict_get_2 _ _) (meets_dict_get (mixKind X.prog X.w) a (kV_is ry) hd) ⟨_, dd.mapOf, h _ _ (I.tok _) ?_⟩
    rw [l]
    exact (rel.val k).getD rfl
  · subst ey
    cases (show u = Value.ref b from ry)
    obtain ⟨z, hd, xs, rel, dd⟩ := dt_rd I.hok e
    refine call_meetsIn PySem.F.slot_dict_get dd.typeIs PySem.F.entry_dict_get (PySem.F.args_dict_get_2 _ _) (meetsH_dict_get (tupleKind (mixKind X.prog X.w)) a b hd) ⟨tupleKind_room_in1 hu, k, xs, key_of I.hok eb, dd, h _ _ (I.tok _) ?_⟩
    rw [l]
    exact (rel.val k).getD rfl
/-- d.get(y, x) -/
theorem d_get2 {Q : Value → Shared → Prop} (hu : A.units + 1 < cLine) (I : Inv X pins σ H s) (g : DGet H a y o) (ry : RelV y u) (rd : RelV d r) (h : ∀ w' s', Inv X pins σ H s' → RelV (o.getD d) w' → Q w' s') :
    wpAny (model X.prog X.w) A (call (.builtin "dict.get") [.ref a, u, r]) Q E s := by
  rcases g with ⟨kvs, k, e, ey, l⟩ | ⟨kvs, k, b, e, ey, eb, l⟩
  · subst ey
    obtain ⟨z, hd, vs, rel, dd⟩ := dk_rd I.hok e
    refine call_meetsIn PySem.F.slot_dict_get dd.typeIs PySem.F.entry_dict_get (PySem.F.args_dict_get_3 _ _ _) (meets_dict_get_default (mixKind X.prog X.w) a (kV_is ry) hd r) ⟨_, dd.mapOf, h _ _ (I.tok _) ?_⟩
    rw [l]
    exact (rel.val k).getD rd
  · subst ey
    cases (show u = Value.ref b from ry)
    obtain ⟨z, hd, xs, rel, dd⟩ := dt_rd I.hok e
    refine call_meetsIn PySem.F.slot_dict_get dd.typeIs PySem.F.entry_dict_get (PySem.F.args_dict_get_3 _ _ _) (meetsH_dict_get_default (tupleKind (mixKind X.prog X.w)) a b hd r) ⟨tupleKind_room_in1 hu, k, xs, key_of I.hok eb, dd, h _ _ (I.tok _) ?_⟩
    rw [l]
    exact (rel.val k).getD rd
end

def tDGet1 (td ty : TE) : TE := fun σ H Q => td σ H fun x H1 => ∃ a, x = .ref a ∧ IsD H1 a ∧ ty σ H1 fun y H2 => ∃ o, DGet H2 a y o ∧ Q (o.getD .non) H2
def tDGet2 (td ty tx : TE) : TE := fun σ H Q => td σ H fun x H1 => ∃ a, x = .ref a ∧ IsD H1 a ∧ ty σ H1 fun y H2 => tx σ H2 fun z H3 => ∃ o, DGet H3 a y o ∧ Q (o.getD z) H3
/-- d.pop(k): there; d.pop(k, x): there or not -/
def tDPop1 (td ty : TE) : TE := fun σ H Q => td σ H fun x H1 => ∃ a, x = .ref a ∧ IsD H1 a ∧ ty σ H1 fun y H2 => ∃ kvs k v, H2 a = some (.dK kvs) ∧ y = kV k ∧ valV kvs k = some v ∧ Q v (upd H2 a (.dK (dropK kvs k)))
def tDPop2 (td ty tx : TE) : TE := fun σ H Q => td σ H fun x H1 => ∃ a, x = .ref a ∧ IsD H1 a ∧ ty σ H1 fun y H2 => tx σ H2 fun z H3 => ∃ kvs k, H3 a = some (.dK kvs) ∧ y = kV k ∧
  (∀ v, valV kvs k = some v → Q v (upd H3 a (.dK (dropK kvs k)))) ∧ (valV kvs k = none → Q z H3)
section
variable {X : Cx} {o e f : Expr} {apos cpos : Pos} {td ty tx : TE}
theorem pe_dget1 (hu : X.A.units + 1 < cLine) (ho : PE X o td) (he : PE X e ty) (m : M1 X o "get" apos e cpos) : PE X (.Call (.Attribute o "get" apos) [e] [] cpos) (tDGet1 td ty) := by
  intro pins s σ H Q I h
  refine wpAny_Call_method m.base m.few m.line PySem.F.plainAttrs_dict PySem.F.slot_dict_get PySem.F.type_dict_get (thn (ho pins s σ H _ I h) fun u s1 ⟨x, H1, I1, rx, a, ex, d, q1⟩ => ?_)
  subst ex
  obtain rfl : u = Value.ref a := rx
  obtain ⟨t1, t2, _⟩ := isD_at I1 d
  refine ⟨t1, t2, ?_⟩
  rw [m.trees]
  refine Calls.callWith_builtin rfl (Calls.evalArgs_plain (Calls.spliced_cons (thn (he pins s1 σ H1 _ I1 q1) fun iv s2 ⟨y, H2, I2, ry, ov, g, q2⟩ => Calls.spliced_nil ?_)))
  exact d_get1 hu I2 g ry fun w' s3 I3 rw' => ⟨_, H2, I3, rw', q2⟩
theorem pe_dget2 (hu : X.A.units + 1 < cLine) (ho : PE X o td) (he : PE X e ty) (hf : PE X f tx) (m : M2 X o "get" apos e f cpos) : PE X (.Call (.Attribute o "get" apos) [e, f] [] cpos) (tDGet2 td ty tx) := by
  intro pins s σ H Q I h
  refine wpAny_Call_method m.base m.few m.line PySem.F.plainAttrs_dict PySem.F.slot_dict_get PySem.F.type_dict_get (thn (ho pins s σ H _ I h) fun u s1 ⟨x, H1, I1, rx, a, ex, d, q1⟩ => ?_)
  subst ex
  obtain rfl : u = Value.ref a := rx
  obtain ⟨t1, t2, _⟩ := isD_at I1 d
  refine ⟨t1, t2, ?_⟩
  rw [m.trees]
  refine Calls.callWith_builtin rfl (Calls.evalArgs_plain (Calls.spliced_cons (thn (he pins s1 σ H1 _ I1 q1) fun iv s2 ⟨y, H2, I2, ry, q2⟩ =>
    Calls.spliced_cons (thn (hf pins s2 σ H2 _ I2 q2) fun fv s3 ⟨z, H3, I3, rz, ov, g, q3⟩ => Calls.spliced_nil ?_))))
  exact d_get2 hu I3 g ry rz fun w' s4 I4 rw' => ⟨_, H3, I4, rw', q3⟩
theorem pe_dpop1 (ho : PE X o td) (he : PE X e ty) (m : M1 X o "pop" apos e cpos) : PE X (.Call (.Attribute o "pop" apos) [e] [] cpos) (tDPop1 td ty) := by
  intro pins s σ H Q I h
  refine wpAny_Call_method m.base m.few m.line PySem.F.plainAttrs_dict PySem.F.slot_dict_pop PySem.F.type_dict_pop (thn (ho pins s σ H _ I h) fun u s1 ⟨x, H1, I1, rx, a, ex, d, q1⟩ => ?_)
  subst ex
  obtain rfl : u = Value.ref a := rx
  obtain ⟨t1, t2, _⟩ := isD_at I1 d
  refine ⟨t1, t2, ?_⟩
  rw [m.trees]
  refine Calls.callWith_builtin rfl (Calls.evalArgs_plain (Calls.spliced_cons (thn (he pins s1 σ H1 _ I1 q1) fun iv s2 ⟨y, H2, I2, ry, kvs, k, v, ea, ey, l, q2⟩ => Calls.spliced_nil ?_)))
  subst ey
  exact d_pop I2 ea ry l (.inl rfl) fun w' s3 I3 rw' => ⟨v, _, I3, rw', q2⟩
theorem pe_dpop2 (ho : PE X o td) (he : PE X e ty) (hf : PE X f tx) (m : M2 X o "pop" apos e f cpos) : PE X (.Call (.Attribute o "pop" apos) [e, f] [] cpos) (tDPop2 td ty tx) := by
  intro pins s σ H Q I h
  refine wpAny_Call_method m.base m.few m.line PySem.F.plainAttrs_dict PySem.F.slot_dict_pop PySem.F.type_dict_pop (thn (ho pins s σ H _ I h) fun u s1 ⟨x, H1, I1, rx, a, ex, d, q1⟩ => ?_)
  subst ex
  obtain rfl : u = Value.ref a := rx
  obtain ⟨t1, t2, _⟩ := isD_at I1 d
  refine ⟨t1, t2, ?_⟩
  rw [m.trees]
  refine Calls.callWith_builtin rfl (Calls.evalArgs_plain (Calls.spliced_cons (thn (he pins s1 σ H1 _ I1 q1) fun iv s2 ⟨y, H2, I2, ry, q2⟩ =>
    Calls.spliced_cons (thn (hf pins s2 σ H2 _ I2 q2) fun fv s3 ⟨z, H3, I3, rz, kvs, k, ea, ey, q3, q4⟩ => Calls.spliced_nil ?_))))
  subst ey
  cases l : valV kvs k with
  | some v => exact d_pop I3 ea ry l (.inr ⟨fv, rfl⟩) fun w' s4 I4 rw' => ⟨v, _, I4, rw', q3 v l⟩
  | none => exact d_popD I3 ea ry l fun s4 I4 => ⟨z, H3, I4, rz, q4 l⟩
end

/-! ### dict(d): a copy -/
section
variable {X : Cx} {pins : List (Addr × Obj)} {σ : St} {H : Hp} {s : Shared} {a : Addr} {kvs : List (Key × V)} {A : Around} {E : Value → Shared → Prop}
theorem d_copyOf {Q : Value → Shared → Prop} (I : Inv X pins σ H s) (e : Rd H a (.dK kvs)) (h : ∀ p s', H p = none → Inv X pins σ (upd H p (.dK kvs)) s' → Q (.ref p) s') : wpAny (model X.prog X.w) A (call (.type "dict") [.ref a]) Q E s := by
  obtain ⟨z, hd, vs, rel, dd⟩ := dk_rd I.hok e
  refine kt_call_dict hd dd (by rw [← rel.length]; exact z) fun h' dd' hs => ?_
  refine h _ _ (I.hok.fresh (Nat.le_refl _)) (I.laid (a := s.heap.objs.size) (o := .dK kvs) (t' := s.toks) (fun b q hq => ?_) (Nat.le_refl _) (dk_new z (beq_eq_false_iff_ne.mpr (Ne.symm (Nat.ne_of_lt I.big))) rel dd'))
  exact (hs.2 b (Nat.ne_of_lt (Heap.lt_size hq))).trans (Heap.get?_push_of_some _ hq)
end


section
variable {X : Cx} {pins : List (Addr × Obj)} {σ : St} {H : Hp} {s : Shared} {a : Addr} {y : V} {u : Value} {A : Around} {E : Value → Shared → Prop}
/-- d[y], not there: a KeyError -/
theorem d_missing {Q : Value → Shared → Prop} (hu : A.units + 1 < cLine) (hh : A.handled = none) (I : Inv X pins σ H s) (g : DGet H a y none) (ry : RelV y u)
    (h : ∀ h' e t', Heap.NewExc s.heap h' e "KeyError" → E (.ref e) { s with heap := h', toks := t' }) : wpAny (model X.prog X.w) A (getItem (.ref a) u) Q E s := by
  rcases g with ⟨kvs, k, e, ey, l⟩ | ⟨kvs, k, b, e, ey, eb, l⟩
  · subst ey
    obtain ⟨z, hd, vs, rel, dd⟩ := dk_rd I.hok e
    have hn : valueAt vs k = none := RelO.none_of (by rw [l]; exact rel.val k)
    exact wpAny_getItem_missing_of (kV_is ry) hd hh dd.mapOf hn fun h' ex ne => h h' ex _ ne
  · subst ey
    cases (show u = Value.ref b from ry)
    obtain ⟨z, hd, xs, rel, dd⟩ := dt_rd I.hok e
    have hn : (atKey xs k).map (·.2) = none := RelO.none_of (by rw [l]; exact rel.val k)
    exact wpAny_getItem_missing_heap (tupleKind_room_in1 hu) (key_of I.hok eb) hd hh dd (Option.map_eq_none_iff.mp hn) fun h' ex ne => h h' ex _ ne
end
end L2

namespace Att
open PySem PySem.W PySem.Calls PyProof.Rows

/-! ### the script -/
theorem ints_of_wellAll {P : Params} {h : Heap} : ∀ (ns : List Int) (vs : List Value), WellAll P h vs (ns.map WData.int) → IntsAre vs ns := by
  intro ns
  induction ns with
  | nil =>
    intro vs w
    rw [List.map_nil] at w
    cases w
    exact .nil
  | cons n ns ih =>
    intro vs w
    rw [List.map_cons] at w
    cases w with
    | cons a b =>
      cases a
      exact .cons _ _ (ih _ b)

theorem script_of {l : OpenLaw} {n : Nat} (hn : l.most = some n) {P : Params} {h : Heap} {args : List WData} {vals : List Value}
    (hpre : l.row.toRowW.claim.pre args = true) (hwl : WellAll P h vals args) :
    ∃ a vs ns, vals = [Value.ref a] ∧ args = [WData.list (ns.map WData.int)] ∧ h.get? a = some { cls := .type "list", data := .seq vs.toArray } ∧ IntsAre vs ns ∧ ns.length ≤ n := by
  have hsh : WShape.hasAll [] args [.list .int] = true := (pre_splitW hpre).1
  have hc : l.pre.holds [] { args := args } = true := (pre_splitW hpre).2
  obtain ⟨d, r, rfl, h1, h2⟩ := hasAllW_cons hsh
  obtain rfl := hasAllW_nil h2
  obtain ⟨xs, rfl, h3⟩ := hasW_list h1
  obtain ⟨ns, rfl⟩ := items_int h3
  have hlen : ns.length ≤ n := by
    unfold OpenLaw.pre at hc
    have h4 : (WTm.not (.lt (.lit (.int (n : Int))) (.len (.arg 0)))).holds [] { args := [.list (ns.map .int)] } = true := by
      have h4 := (holds_andW hc).1
      rw [hn] at h4
      exact h4
    have h5 := condW_of h4 (w_not (w_lt w_lit (w_len_list (w_arg rfl))))
    rw [List.length_map] at h5
    refine Nat.le_of_not_lt fun q => ?_
    have q' : (n : Int) < ((ns.length : Nat) : Int) := by omega
    first
      | (rw [decide_eq_true q'] at h5; exact absurd h5 (by decide))
      | (simp at h5; omega)
  cases hwl with
  | cons w1 w2 =>
    cases w2
    cases w1 with
    | list ho hall => exact ⟨_, _, ns, rfl, rfl, ho, ints_of_wellAll ns _ hall, hlen⟩

theorem post_true (l : OpenLaw) (args : List WData) : l.row.toRowW.claim.post args (.bool true) args = true :=
  postW_of (r := l.row.toRowW) (X := (true == true))
    (show WShape.has [] (.bool true) .bool = true by first | rfl | decide | simp [WShape.has, WShape.arms, WShape.armsAll])
    (show (WTm.eq .res (.lit (.bool true))).value [] { args := args, res := some (.bool true), after := args } = some (.bool (true == true)) from w_eq_bool (w_res rfl) w_lit) rfl

/-! ### the attachment: holds_open's last premise (the goal 'hc' behind k_head) from a wpAny of the law's body -/
theorem attach {l : OpenLaw} {n : Nat} {q : Program} {loose : List Str} {XP : (Str → Option Value) → Heap → Prop} {YP : World → Heap → Prop} {d : DefRec} {x : Str}
    (hn : l.most = some n) (hdf : d.params.defaults = [])
    (hbind : ∀ pm cd doc v : Value, bindArgs (docDef d.name d.params d.body d.scope pm cd doc) ⟨[v], []⟩ = pure [(x, v)])
    (hx : d.scope.names.lookup x = some .local ∨ d.scope.names.lookup x = some .cell)
    (hk : d.scope.kind = .function) (hco : d.scope.isCoroutine = false) (hgen : d.scope.isGenerator = false)
    (body : ∀ (w : World) (s₀ s₁ s : Shared) (mg mb : Str → Option Value) (fa : Addr) (o : Obj) (pm cd doc : Value) (a : Addr) (vs : List Value) (ns : List Int),
      Ground q loose [] XP w s₀ mg mb s₁.heap → YP w s₁.heap →
      s₁.heap.get? fa = some o → o.data = .func (docDef d.name d.params d.body d.scope pm cd doc) → s₁.heap.CodeRec cd d.name → mg d.name = some (.ref fa) →
      s₁.heap.get? a = some { cls := .type "list", data := .seq vs.toArray } → IntsAre vs ns → ns.length ≤ n →
      s.gens = #[] → s.os = s₁.os →
      Fr s₁.heap s₁.heap.objs.size s.heap (bindL (envOfC d.name d.scope s₁.heap.objs.size fa cd).kindOf [(x, .ref a)] fun _ => none) →
      Cl s₁.heap.objs.size (cellsFrom (s₁.heap.objs.size + 1) d.scope.names []) s.heap (bindC (envOfC d.name d.scope s₁.heap.objs.size fa cd).kindOf [(x, .ref a)] fun _ => none) →
      wpAny (model l.prog w) (callerA.deeper (envOfC d.name d.scope s₁.heap.objs.size fa cd)) (execs d.body (envOfC d.name d.scope s₁.heap.objs.size fa cd))
        (fun f s' => f = .ret (.bool true) ∧ OldK s₁.heap s'.heap ∧ s'.os = s₁.os ∧ AllBare s'.gens) (fun _ _ => False) s) :
    WalkO q loose XP YP l.row.toRowW d [] (fun f vs => PySem.call f vs) := by
  intro w s₀ s₁ mg mb G Y fa o pm cd doc dV kV ho hd hcd hD hmg hg args vals as hpre hlay hrd hwl hlo
  obtain rfl : dV = .none := Dflts.none hD hdf
  obtain rfl : kV = .none := Dflts.noKw hD
  obtain ⟨a, vs, ns, rfl, rfl, hobj, hints, hlen⟩ := script_of hn hpre hwl
  refine enter_call ?_
  refine call_cells_ret (o := o) (by rw [depth_caller]; decide) ho (fd_plain hd) G.T.nolimit hcd (hbind pm cd doc (.ref a)) (fun y hy => ?_) (fun h₁ tk F X => ?_) hco hgen hk
  · obtain rfl : y = (x, Value.ref a) := List.mem_singleton.mp hy
    rcases hx with e | e
    · exact .inl e
    · exact .inr ⟨e, cellsFrom_some _ _ _ (.inl e)⟩
  · refine wpAny_mono (body w s₀ s₁ { s₁ with heap := h₁, toks := tk } mg mb fa o pm cd doc a vs ns G Y ho (fd_plain hd) hcd hmg hobj hints hlen hg rfl F X) (fun f s' hq => ?_) (fun _ _ hq => hq)
    obtain ⟨rfl, h2, h3, h4⟩ := hq
    exact ⟨.inl ⟨.bool true, .bool true, [], rfl, fun _ => rfl, .bool true, post_true l _, fun _ => ⟨List.Pairwise.nil, fun _ hm => (nomatch hm)⟩⟩, h2, h3, h4⟩

/-- the same from a codeAny of the CALL (for a layer whose function contracts speak of calls) -/
theorem attach_call {l : OpenLaw} {n : Nat} {q : Program} {loose : List Str} {XP : (Str → Option Value) → Heap → Prop} {YP : World → Heap → Prop} {d : DefRec}
    (hn : l.most = some n) (hdf : d.params.defaults = [])
    (call : ∀ (w : World) (s₀ s₁ : Shared) (mg mb : Str → Option Value) (fa : Addr) (o : Obj) (pm cd doc : Value) (a : Addr) (vs : List Value) (ns : List Int),
      Ground q loose [] XP w s₀ mg mb s₁.heap → YP w s₁.heap →
      s₁.heap.get? fa = some o → o.data = .func (docDef d.name d.params d.body d.scope pm cd doc) → s₁.heap.CodeRec cd d.name → mg d.name = some (.ref fa) →
      s₁.heap.get? a = some { cls := .type "list", data := .seq vs.toArray } → IntsAre vs ns → ns.length ≤ n → s₁.gens = #[] →
      codeAny (model l.prog w) callerA (.call (.ref fa) ⟨[.ref a], []⟩) (fun r s' => r = .ok (.ret (.bool true)) ∧ OldK s₁.heap s'.heap ∧ s'.os = s₁.os ∧ AllBare s'.gens) s₁) :
    WalkO q loose XP YP l.row.toRowW d [] (fun f vs => PySem.call f vs) := by
  intro w s₀ s₁ mg mb G Y fa o pm cd doc dV kV ho hd hcd hD hmg hg args vals as hpre hlay hrd hwl hlo
  obtain rfl : dV = .none := Dflts.none hD hdf
  obtain rfl : kV = .none := Dflts.noKw hD
  obtain ⟨a, vs, ns, rfl, rfl, hobj, hints, hlen⟩ := script_of hn hpre hwl
  refine enter_call (codeAny_mono (call w s₀ s₁ mg mb fa o pm cd doc a vs ns G Y ho (fd_plain hd) hcd hmg hobj hints hlen hg) fun r s' hq => ?_)
  obtain ⟨rfl, h2, h3, h4⟩ := hq
  exact ⟨.inl ⟨.bool true, .bool true, [], rfl, fun _ => rfl, .bool true, post_true l _, fun _ => ⟨List.Pairwise.nil, fun _ hm => (nomatch hm)⟩⟩, h2, h3, h4⟩

/-- the same where the top left finished generators (o_head chose holds_openN): nothing may have changed at all and no generator may be left -/
theorem attachN {l : OpenLaw} {n : Nat} {q : Program} {loose : List Str} {XP : (Str → Option Value) → Heap → Prop} {YP : World → Heap → Prop} {d : DefRec} {x : Str}
    (hn : l.most = some n) (hdf : d.params.defaults = [])
    (hbind : ∀ pm cd doc v : Value, bindArgs (docDef d.name d.params d.body d.scope pm cd doc) ⟨[v], []⟩ = pure [(x, v)])
    (hx : d.scope.names.lookup x = some .local ∨ d.scope.names.lookup x = some .cell)
    (hk : d.scope.kind = .function) (hco : d.scope.isCoroutine = false) (hgen : d.scope.isGenerator = false)
    (body : ∀ (w : World) (s₀ s₁ s : Shared) (mg mb : Str → Option Value) (fa : Addr) (o : Obj) (pm cd doc : Value) (a : Addr) (vs : List Value) (ns : List Int),
      Ground q loose [] XP w s₀ mg mb s₁.heap → YP w s₁.heap →
      s₁.heap.get? fa = some o → o.data = .func (docDef d.name d.params d.body d.scope pm cd doc) → s₁.heap.CodeRec cd d.name → mg d.name = some (.ref fa) →
      s₁.heap.get? a = some { cls := .type "list", data := .seq vs.toArray } → IntsAre vs ns → ns.length ≤ n →
      s.gens = #[] → s.os = s₁.os →
      Fr s₁.heap s₁.heap.objs.size s.heap (bindL (envOfC d.name d.scope s₁.heap.objs.size fa cd).kindOf [(x, .ref a)] fun _ => none) →
      Cl s₁.heap.objs.size (cellsFrom (s₁.heap.objs.size + 1) d.scope.names []) s.heap (bindC (envOfC d.name d.scope s₁.heap.objs.size fa cd).kindOf [(x, .ref a)] fun _ => none) →
      wpAny (model l.prog w) (callerA.deeper (envOfC d.name d.scope s₁.heap.objs.size fa cd)) (execs d.body (envOfC d.name d.scope s₁.heap.objs.size fa cd))
        (fun f s' => f = .ret (.bool true) ∧ (∀ b o, s₁.heap.get? b = some o → s'.heap.get? b = some o) ∧ s'.os = s₁.os ∧ s'.gens = #[]) (fun _ _ => False) s) :
    WalkN q loose XP YP l.row.toRowW d [] (fun f vs => PySem.call f vs) := by
  intro w s₀ s₁ mg mb G Y fa o pm cd doc dV kV ho hd hcd hD hmg hg args vals as hpre hlay hrd hwl hlo
  obtain rfl : dV = .none := Dflts.none hD hdf
  obtain rfl : kV = .none := Dflts.noKw hD
  obtain ⟨a, vs, ns, rfl, rfl, hobj, hints, hlen⟩ := script_of hn hpre hwl
  refine enter_callW ?_
  refine call_cells_ret (o := o) (by rw [depth_caller]; decide) ho (fd_plain hd) G.T.nolimit hcd (hbind pm cd doc (.ref a)) (fun y hy => ?_) (fun h₁ tk F X => ?_) hco hgen hk
  · obtain rfl : y = (x, Value.ref a) := List.mem_singleton.mp hy
    rcases hx with e | e
    · exact .inl e
    · exact .inr ⟨e, cellsFrom_some _ _ _ (.inl e)⟩
  · refine wpAny_mono (body w s₀ s₁ { s₁ with heap := h₁, toks := tk } mg mb fa o pm cd doc a vs ns G Y ho (fd_plain hd) hcd hmg hobj hints hlen hg rfl F X) (fun f s' hq => ?_) (fun _ _ hq => hq)
    obtain ⟨rfl, h2, h3, h4⟩ := hq
    exact ⟨.inl ⟨.bool true, .bool true, [], rfl, fun _ => rfl, .bool true, post_true l _, fun _ => ⟨List.Pairwise.nil, fun _ hm => (nomatch hm)⟩⟩, h2, h3, h4⟩

/-! ### rules over ANY heap (no ledger) from facts about the written part K: the library's own take a ledger (News) for what they write -/
section
variable {prog : Program} {w : World} {A : Around} {E : Value → Shared → Prop} {s : Shared} {K : Frag}

/-- a def of the module, or a method (qual 'C.m'), entered: the frame is the next address; cells behind it -/
theorem call_fn {R : Result → Shared → Prop} {name qual : Str} {params : Arguments} {body : List Stmt} {scope : Scope} {dV kV doc pm cdv ct oc : Value} {an od : Option Addr} {osl : Array (Option Value)} {f : Addr} {args : Args} {binds : List (Str × Value)}
    (X : K.In s.heap) (hlim : s.heap.NoLimit) (ho : K.lookup f = some ⟨oc, od, .func (fnOf name qual params body scope dV kV doc pm an cdv ct), osl⟩) (hcd : codeIn K cdv qual = true) (hroom : A.depth < recursionLimit)
    (hbind : BindsTo s (fnOf name qual params body scope dV kV doc pm an cdv ct) args binds)
    (hkind : (binds.all fun y => scope.names.lookup y.1 == some .local || scope.names.lookup y.1 == some .cell) = true)
    (h : ∀ s₁, InCallC s s.heap.objs.size (bindL (envOfC qual scope s.heap.objs.size f cdv).kindOf binds fun _ => none) (cellsFrom (s.heap.objs.size + 1) scope.names [])
        (bindC (envOfC qual scope s.heap.objs.size f cdv).kindOf binds fun _ => none) s₁ →
      wpAny (model prog w) (A.deeper (envOfC qual scope s.heap.objs.size f cdv)) (execs body (envOfC qual scope s.heap.objs.size f cdv))
        (fun fl s' => R (.ok (.ret (match fl with | .ret v => v | _ => .none))) s')
        (fun e s' => wpAny (model prog w) (A.deeper (envOfC qual scope s.heap.objs.size f cdv)) (leaving (envOfC qual scope s.heap.objs.size f cdv) e) (fun _ s'' => R (.error e) s'') (fun e' s'' => R (.error e') s'') s') s₁)
    (hco : scope.isCoroutine = false) (hgen : scope.isGenerator = false) (hk : scope.kind = .function) : codeAny (model prog w) A (.call (.ref f) args) R s := by
  refine codeAny_call_function hroom (X _ _ ho) rfl hco hgen rfl (codeRec_of X hcd) (hbind _ _ _ _ ?_)
  refine wpAny_newFunctionEnv_cells hk (kindsX hkind _) fun env he s₁ x => ?_
  subst he
  exact ⟨hlim.keeps x.toInCall.keep, codeAny_func (h s₁ x)⟩

/-- C(..): dict at size, instance at size + 1, then __init__ -/
theorem make_obj {R : Result → Shared → Prop} {C fI : Addr} {rest : List Value} {kw : List (Str × Value)}
    (X : K.In s.heap) (hm : makesIn K C = true) (hi : findIn K (.ref C) "__init__" = some (some (.ref fI))) (hf : isFn K (.ref fI) = true)
    (h : codeAny (model prog w) (A.under (.builtin "type.__call__" ⟨.ref C :: rest, kw⟩)) (.call (.ref fI) ⟨.ref (s.heap.objs.size + 1) :: rest, kw⟩) (InitBack (s.heap.objs.size + 1) R)
      { s with heap := (s.heap.push emptyDict).push (instObj C s.heap.objs.size) }) : codeAny (model prog w) A (.call (.ref C) ⟨rest, kw⟩) R s := by
  obtain ⟨hh, g, d, t, os⟩ := s
  exact make_core (makes_of X hm) (looks_findIn X hi) (fun self => bind_fn X self (beq_iff_eq.mp hf)) (.inl rfl) h

/-- x.name where the instance's dict holds the name and the class does not -/
theorem get_field {x C : Addr} {ox : Obj} {es : List DictEntry} {n : Nat} {name : Str} {expr : Bool} {v : Value} {Q : Value → Shared → Prop}
    (X : K.In s.heap) (I : PySem.W.InstAt s.heap x ox C (some (dictOf es n))) (hg : plainGet K C name = true) (hh : hasDictIn K C = true) (ha : findIn K (.ref C) name = some none)
    (hl : getL name es = some (some v)) (hv : handedIn v = true) (h : Q v { s with toks := s.toks + 1 }) : wpAny (model prog w) A (getAttr (.ref x) name expr) Q E s :=
  get_value X I (plainGet_of hg).1 (findObj_own hh ha rfl hl) hv h

/-- x.m(..): the method found in the class -/
theorem get_method {x C f : Addr} {ox : Obj} {es : List DictEntry} {n : Nat} {name : Str} {pl : Sem Bool} {Q : Value × List Value → Shared → Prop}
    (X : K.In s.heap) (I : PySem.W.InstAt s.heap x ox C (some (dictOf es n))) (hg : plainGet K C name = true) (hf : findIn K (.ref C) name = some (some (.ref f))) (ht : isFn K (.ref f) = true)
    (hl : getL name es = some none) (h : Q (.ref f, [.ref x]) s) : wpAny (model prog w) A (getMethod (.ref x) name pl) Q E s :=
  method_fn X I (plainGet_of hg).1 (plainGet_of hg).2 hf (beq_iff_eq.mp ht) (by show (lookIn name (dictOf es n)).map _ = _; rw [lookIn_dict, hl]; rfl) h

/-! the whole heap as the ledger: makes every rule that writes through a ledger a rule over any heap -/
def noObjs (h : Heap) : Heap := { h with objs := #[] }
theorem noObjs_get (h : Heap) (b : Addr) : (noObjs h).get? b = none := by
  cases e : (noObjs h).get? b with
  | none => rfl
  | some o => exact absurd (Heap.lt_size e) (Nat.not_lt_zero _)
def ledger (h : Heap) (L d : Addr) : List (Addr × Obj) := (List.range h.objs.size).filterMap fun a => if a = L ∨ a = d then none else (h.get? a).map fun o => (a, o)
theorem mem_ledger {h : Heap} {L d a : Addr} {o : Obj} : (a, o) ∈ ledger h L d ↔ a ≠ L ∧ a ≠ d ∧ h.get? a = some o := by
  unfold ledger
  rw [List.mem_filterMap]
  constructor
  · rintro ⟨b, _, e⟩
    split at e
    · cases e
    · rename_i hb
      obtain ⟨o', ho, e'⟩ := Option.map_eq_some_iff.mp e
      cases e'
      exact ⟨fun q => hb (.inl q), fun q => hb (.inr q), ho⟩
  · rintro ⟨n1, n2, ho⟩
    refine ⟨a, List.mem_range.mpr (Heap.lt_size ho), ?_⟩
    rw [if_neg (show ¬ (a = L ∨ a = d) from fun q => q.elim n1 n2), ho] <;> rfl
theorem news_ledger {h : Heap} {L d : Addr} {od : Obj} (hne : d ≠ L) (ho : h.get? d = some od) : News (noObjs h) L h ([] ++ (d, od) :: ledger h L d) := by
  rintro ⟨a, o⟩ hp
  rcases List.mem_cons.mp hp with e | hp
  · cases e
    exact ⟨ho, hne, noObjs_get _ _⟩
  · obtain ⟨n1, n2, e⟩ := mem_ledger.mp hp
    exact ⟨e, n1, noObjs_get _ _⟩
theorem fr_all {h : Heap} {L : Addr} {m : Str → Option Value} (n : h.Ns L m) : Fr (noObjs h) L h m :=
  ⟨n, fun b o e => (by rw [noObjs_get] at e; cases e), Nat.zero_le _⟩
/-- Upd of the head entry (for append_K, setItem_K ..) -/
theorem upd_ledger {h : Heap} {L d : Addr} {o o' : Obj} : Upd d o o' ((d, o) :: ledger h L d) ((d, o') :: ledger h L d) :=
  .head fun ⟨_, _⟩ hp => (mem_ledger.mp hp).2.1

/-- x.name = v over any heap: L is any namespace of the heap (the frame's, say): its map stays, its object is not told; all else but the dict stays -/
theorem set_field {x C dx L : Addr} {ox : Obj} {m : Str → Option Value} {es es' : List DictEntry} {n n' : Nat} {name : Str} {v : Value} {Q : Unit → Shared → Prop}
    (X : K.In s.heap) (I : PySem.W.InstAt s.heap x ox C (some (dictOf es n))) (hd : ox.dict = some dx) (hL : s.heap.Ns L m) (hne : dx ≠ L)
    (hs : findIn K (.ref C) "__setattr__" = some (some (.builtin "object.__setattr__"))) (hp : plainOver K C = true) (ht : takerIn K C name = some none) (hh : hasDictIn K C = true) (hl : (getL name es).isSome = true)
    (e : (putL name (PyData.keyHash w.params name) (.str name (s.toks + 1)) v es, putN name es n) = (es', n')) (hz : es'.length ≤ 1000)
    (h : ∀ h' : Heap, h'.Ns L m → h'.get? dx = some (dictOf es' n') → (∀ b o, b ≠ dx → b ≠ L → s.heap.get? b = some o → h'.get? b = some o) → Q () { s with heap := h', toks := s.toks + 2 }) :
    wpAny (model prog w) A (setAttr (.ref x) name v) Q E s := by
  obtain ⟨e1, e2⟩ := Prod.mk.inj e
  have hdx : s.heap.get? dx = some (dictOf es n) := by
    have := I.dict
    rw [hd] at this
    exact this
  refine set_plain X I hs (osa_dict (s := { s with toks := s.toks + 1 }) (h₀ := noObjs s.heap) (L := L) (m := m) (od := dictOf es n) (od' := dictOf es' n') (es := es') (n := n') (pre := []) (post := ledger s.heap L dx)
    (fr_all hL) (news_ledger hne hdx) X I hd hp ht hh hl (fun _ q => nomatch q) (fun ⟨_, _⟩ q => (mem_ledger.mp q).2.1) (by rw [putName_dict, e1, e2]) rfl hz fun h' F' N' => ?_)
  exact h h' F'.ns (N'.get (List.Mem.head _)) fun b o n1 n2 ho => N'.get (List.Mem.tail _ (mem_ledger.mpr ⟨n2, n1, ho⟩))
end
end Att

namespace L2
open PySem PySem.Spec PyProof.Rows

theorem vals_ints : ∀ {vs : List Value} {ns : List Int}, IntsAre vs ns → Vals (ns.map V.int) vs
  | _, _, .nil => .nil
  | _, _, .cons n t h => .cons ⟨t, rfl⟩ (vals_ints h)

/-- nothing is tracked but the script, known to the object (or it is an object of the module) -/
def Only (H : Hp) : Prop := ∀ b, H b = none ∨ ∃ o xs, H b = some (.frz o (.lst xs))

/-- THE HEAD: the law's promise, at the heap behind the top. F, the promise of the law's def, may use that base is part of the heap (so K.In base, base.Ns mainGlobals mg stand in Mod) -/
theorem law_call {P : Program} {w : World} {K : PySem.W.Frag} {mg mb : Str → Option Value} {CX : CXT} {k : Nat} {fa a : Addr} {fd : FuncData} {x : Str} {sp : Sp} {s₁ : Shared} {vs : List Value} {ns : List Int}
    (KX : K.In s₁.heap) (hns : s₁.heap.Ns mainGlobals mg) (hb : s₁.heap.Ns builtinsNs mb) (hbb : ∀ x : Str, x ≠ "__name__" → mb x = bootBuiltins x) (hlim : s₁.heap.NoLimit) (hg : s₁.gens = #[])
    (ha : s₁.heap.get? a = some { cls := .type "list", data := .seq vs.toArray }) (hi : IntsAre vs ns) (hl : ns.length ≤ sizeLine) (hr : Room k callerA)
    (F : ∀ base : Heap, K.In base → base.Ns mainGlobals mg → FnOk P w K mg base CX k fa fd [x] sp) (hbind : ∀ (s : Shared) (u : Value), BindsTo s fd ⟨[u], []⟩ [(x, u)])
    (hsp : ∀ H : Hp, Only H → SqL K H a (ns.map V.int) → sp [.ref a] H (fun v _ => v = .bl true) fun _ _ _ => False)
    (hCX : ∀ H e s', CX [] H s₁ (fun _ _ _ => False) e s' → False) :
    codeAny (model P w) callerA (.call (.ref fa) ⟨[.ref a], []⟩) (fun r s' => r = .ok (.ret (.bool true)) ∧ OldK s₁.heap s'.heap ∧ s'.os = s₁.os ∧ AllBare s'.gens) s₁ := by
  have rv := vals_ints hi
  have lenV := hi.length
  -- from an abstract heap in which nothing but the script may be tracked
  have core : ∀ H : Hp, Only H → SqL K H a (ns.map V.int) → HOk P w H s₁.heap → (∀ b, H b ≠ none → b = a) → (H a ≠ none → K.lookup a = none) →
      codeAny (model P w) callerA (.call (.ref fa) ⟨[.ref a], []⟩) (fun r s' => r = .ok (.ret (.bool true)) ∧ OldK s₁.heap s'.heap ∧ s'.os = s₁.os ∧ AllBare s'.gens) s₁ := by
    intro H hO hS hok hA hK
    have base_of : ∀ {b : Addr} {o : Obj}, s₁.heap.get? b = some o → H b = none → (hidT s₁.heap H).get? b = some o := fun e n => hidT_get e n
    have noA : ∀ {b : Addr} {o : Obj} {es : Array DictEntry} {ep : Nat}, s₁.heap.get? b = some o → o.data = .dict es ep → H b = none := fun {b o es ep} e d => by
      cases q : H b with
      | none => rfl
      | some u =>
        have e' : b = a := hA b (by rw [q]; simp)
        subst e'
        rw [ha] at e; cases e
        have d' : Data.seq vs.toArray _ = Data.dict es ep := d
        cases d'
    have nsK : ∀ {b : Addr} {m : Str → Option Value}, s₁.heap.Ns b m → (hidT s₁.heap H).Ns b m := fun {b m} ⟨o, es, ep, e, d, r⟩ => ⟨o, es, ep, base_of e (noA e d), d, r⟩
    have hKb : K.In (hidT s₁.heap H) := fun b o e => base_of (KX b o e) (by
      cases q : H b with
      | none => rfl
      | some u =>
        have e' : b = a := hA b (by rw [q]; simp)
        subst e'
        rw [hK (by rw [q]; simp)] at e; cases e)
    have hM : Mod K mg (hidT s₁.heap H) := ⟨hKb, nsK hns, ⟨mb, nsK hb, hbb⟩, let ⟨mc, h1, h2⟩ := hlim; ⟨mc, nsK h1, h2⟩⟩
    have e0 : Env0 P w K mg (hidT s₁.heap H) callerA [] s₁ H := ⟨rfl, hM, fun b o e => of_hidT e, Nat.le_of_eq (hidT_size _ _), trivial, fun b hb => absurd (show b ∈ ([] : List Addr) from hb) (by simp), hok, .of_eq hg⟩
    refine codeAny_mono ((F _ hKb (nsK hns)).run callerA [] s₁ H ⟨[.ref a], []⟩ [.ref a] [.ref a] _ _ hr e0 (hbind s₁ (.ref a)) (.cons rfl .nil) (hsp H hO hS)) fun r s' h => ?_
    cases r with
    | error e => exact (hCX H e s' h).elim
    | ok fl =>
      cases fl with
      | next => exact False.elim h
      | brk => exact False.elim h
      | cont => exact False.elim h
      | ret u =>
        obtain ⟨v, H', os, bare, un, hok', r', q⟩ := h
        have q' : v = .bl true := q
        subst q'
        obtain rfl : u = Value.bool true := r'
        refine ⟨rfl, OldK.of_keep fun b o e => ?_, os, bare⟩
        cases q : H b with
        | none => exact un.keep b o e q (by intro z; exact absurd (show b ∈ ([] : List Addr) from z) (by simp)) (by simp)
        | some u =>
          rcases hO b with z | ⟨ob, xs, z⟩
          · rw [q] at z; cases z
          · have z2 := un.frzs b ob _ z
            obtain ⟨e1, _⟩ := hok b _ z
            obtain ⟨e2, _⟩ := hok' b _ z2
            rw [e] at e1; cases e1
            exact e2
  cases hk : K.lookup a with
  | some o =>
    -- the script is one of the module's own objects
    have e := KX a o hk
    rw [ha] at e
    cases e
    refine core (fun _ => none) (fun _ => .inl rfl) (.inr ⟨_, vs.toArray, _, hk, rfl, rfl, rfl, by rw [List.size_toArray, lenV]; exact hl, by simpa using rv⟩) (fun b u z => by have z' : (none : Option HO) = some u := z; cases z') (fun b z => absurd rfl z) fun z => absurd rfl z
  | none =>
    refine core (fun b => if b = a then some (.frz { cls := .type "list", data := .seq vs.toArray } (.lst (ns.map V.int))) else none) (fun b => ?_) (.inl (.inr ⟨{ cls := .type "list", data := .seq vs.toArray }, if_pos rfl⟩)) (fun b u z => ?_) (fun b z => ?_) fun _ => hk
    · by_cases hb : b = a
      · exact .inr ⟨_, _, if_pos hb⟩
      · exact .inl (if_neg hb)
    · by_cases hb : b = a
      · have z' := (if_pos hb).symm.trans z
        cases z'
        subst hb
        exact ⟨ha, by rw [List.length_map]; exact hl, vs, _, rv, ha⟩
      · have z' := (if_neg hb).symm.trans z
        cases z'
    · by_cases hb : b = a
      · exact hb
      · exact absurd (if_neg hb) z
end L2

namespace L2
open PySem PySem.Spec PyProof.Rows

abbrev KOf {K : PySem.W.Frag} {h : Heap} (_ : K.In h) : PySem.W.Frag := K

/-- the goal that k_head leaves (case hc), from the law's promise. F gives the function object fd (K's own) once, then the promise over every base -/
theorem walk_of {l : PySem.W.OpenLaw} {n k : Nat} {q : Program} {loose : List Str} {XP : (Str → Option Value) → Heap → Prop} {YP : World → Heap → Prop} {d : DefRec} {K : Params → PySem.W.Frag} {CX : World → CXT} {sp : World → Sp} {x : Str}
    (hn : l.most = some n) (hn2 : n ≤ sizeLine) (hdf : d.params.defaults = []) (hr : Room k callerA)
    (hY : ∀ (w : World) (h : Heap), YP w h → (K w.params).In h)
    (F : ∀ (w : World) (mg : Str → Option Value) (fa : Addr) (h : Heap), (K w.params).In h → h.Ns mainGlobals mg → mg d.name = some (.ref fa) →
      ∃ fd : FuncData, (∀ (s : Shared) (u : Value), BindsTo s fd ⟨[u], []⟩ [(x, u)]) ∧
        ∀ base : Heap, (K w.params).In base → base.Ns mainGlobals mg → FnOk l.prog w (K w.params) mg base (CX w) k fa fd [x] (sp w))
    (hsp : ∀ (w : World) (H : Hp) (a : Addr) (ns : List Int), ns.length ≤ n → Only H → SqL (K w.params) H a (ns.map V.int) → sp w [.ref a] H (fun v _ => v = .bl true) fun _ _ _ => False)
    (hCX : ∀ (w : World) (H : Hp) (s : Shared) (e : Value) (s' : Shared), CX w [] H s (fun _ _ _ => False) e s' → False) :
    PySem.W.WalkO q loose XP YP l.row.toRowW d [] (fun f vs => PySem.call f vs) := by
  refine Att.attach_call hn hdf fun w s₀ s₁ mg mb fa o pm cd doc a vs ns G Y ho hd hcd hmg hobj hints hlen hg => ?_
  have KX := hY w _ Y
  obtain ⟨fd, hb, hF⟩ := F w mg fa _ KX G.T.g hmg
  exact law_call KX G.T.g G.T.b G.T.builtins G.T.nolimit hg hobj hints (Nat.le_trans hlen hn2) hr hF hb (fun H hO hS => hsp w H a ns hlen hO hS) fun H e s' => hCX w H s₁ e s'
/-- the same where the promise hangs on the written part alone: (sp := My.sp_law), no hole under a binder -/
theorem walk_ofK {l : PySem.W.OpenLaw} {n k : Nat} {q : Program} {loose : List Str} {XP : (Str → Option Value) → Heap → Prop} {YP : World → Heap → Prop} {d : DefRec} {K : Params → PySem.W.Frag} {CX : CXT} {sp : PySem.W.Frag → Sp} {x : Str}
    (hn : l.most = some n) (hn2 : n ≤ sizeLine) (hdf : d.params.defaults = []) (hr : Room k callerA)
    (hY : ∀ (w : World) (h : Heap), YP w h → (K w.params).In h)
    (F : ∀ (w : World) (mg : Str → Option Value) (fa : Addr) (h : Heap), (K w.params).In h → h.Ns mainGlobals mg → mg d.name = some (.ref fa) →
      ∃ fd : FuncData, (∀ (s : Shared) (u : Value), BindsTo s fd ⟨[u], []⟩ [(x, u)]) ∧
        ∀ base : Heap, (K w.params).In base → base.Ns mainGlobals mg → FnOk l.prog w (K w.params) mg base CX k fa fd [x] (sp (K w.params)))
    (hsp : ∀ (K : PySem.W.Frag) (H : Hp) (a : Addr) (ns : List Int), ns.length ≤ n → Only H → SqL K H a (ns.map V.int) → sp K [.ref a] H (fun v _ => v = .bl true) fun _ _ _ => False)
    (hCX : ∀ (H : Hp) (s : Shared) (e : Value) (s' : Shared), CX [] H s (fun _ _ _ => False) e s' → False) :
    PySem.W.WalkO q loose XP YP l.row.toRowW d [] (fun f vs => PySem.call f vs) :=
  walk_of (K := K) (CX := fun _ => CX) (sp := fun w => sp (K w.params)) hn hn2 hdf hr hY F (fun w H a ns h1 h2 h3 => hsp (K w.params) H a ns h1 h2 h3) fun _ H s e s' => hCX H s e s'
end L2



/-! SHORT WORDS over the layer: a def of the text, its body, what a loop and a test want. -/
namespace L2
open PySem PySem.Spec PyProof.Rows

/-! ### the text by places -/
/-- the j-th statement of a class's body -/
def inClass (s : Stmt) (j : Nat) : Stmt := match s with
  | .ClassDef _ _ _ body _ _ _ _ _ _ _ => body.getD j (.Pass ⟨0, 0, 0, 0⟩)
  | _ => .Pass ⟨0, 0, 0, 0⟩
def defArgs (s : Stmt) : Arguments := match s with
  | .FunctionDef _ a _ _ _ _ _ _ _ _ => a
  | _ => { posonlyargs := [], args := [], vararg := none, kwonlyargs := [], kw_defaults := [], kwarg := none, defaults := [] }
def defBody (s : Stmt) : List Stmt := match s with
  | .FunctionDef _ _ b _ _ _ _ _ _ _ => b
  | _ => []
def defScope (s : Stmt) : Scope := match s with
  | .FunctionDef _ _ _ _ _ _ sc _ _ _ => sc
  | _ => { kind := .function, names := [], isGenerator := false, isCoroutine := false }

/-! ### no exception leaves a def -/
abbrev CX0 : CXT := fun _ _ _ _ _ _ => False
abbrev E0 : XK := fun _ _ _ => False
theorem pass0 {X : Cx} : Passes CX0 X E0 := fun _ _ _ _ _ _ _ h => h.elim

/-! ### a def (or method) of the text as it stands behind the top -/
structure Fun (K : PySem.W.Frag) (x qual : Str) (st : Stmt) (f : Addr) (fd : FuncData) : Prop where
  ex : ∃ (oc : Value) (od : Option Addr) (kV doc pm : Value) (an : Option Addr) (cdv ct : Value) (osl : Array (Option Value)),
    fd = PySem.W.fnOf x qual (defArgs st) (defBody st) (defScope st) .none kV doc pm an cdv ct ∧ K.lookup f = some ⟨oc, od, .func fd, osl⟩ ∧ PySem.W.codeIn K cdv qual = true
  kp : PySem.W.keepIn K (.ref f) = true
section
variable {P : Program} {w : World} {K : PySem.W.Frag} {mg : Str → Option Value} {base : Heap}
/-- THE RULE for a def: its body as a term of rules, and the reading of that term -/
theorem Fun.ok {x qual : Str} {st : Stmt} {f : Addr} {fd : FuncData} {N ps : List Str} {k : Nat} {sp : Sp} (F : Fun K x qual st f fd) (S : FnScope N ps (defScope st)) (len : ∀ vs H Q E, sp vs H Q E → vs.length = ps.length)
    (hbody : ∀ (cdv : Value) (A : Around) (outer : List Env) (s : Shared) (H : Hp) (vs : List V) (Q : VK) (E : XK), Room k (A.deeper (envOfC qual (defScope st) s.heap.objs.size f cdv)) → sp vs H Q E →
      ∃ t, PSs (cxOf CX0 P w K mg base N qual (defScope st) f cdv A outer s H E).nox (defBody st) t ∧ t { nx := fun _ H' => Q .non H', rt := Q } (start N vs) H) : FnOk P w K mg base CX0 (k + 1) f fd ps sp := by
  obtain ⟨oc, od, kV, doc, pm, an, cdv, ct, osl, rfl, lk, hcd⟩ := F.ex
  refine fn_of lk hcd S len fun A outer s H vs Q E hr hsp => ?_
  obtain ⟨t, h, q⟩ := hbody cdv A outer s H vs Q E hr hsp
  exact ⟨t, h.nox, q⟩
/-- how its arguments bind (no defaults): h is «fun _ _ _ _ _ _ us hl => match us, hl with | [_, _], _ => rfl», one _ a parameter -/
theorem Fun.binds {x qual : Str} {st : Stmt} {f : Addr} {fd : FuncData} {ps : List Str} (F : Fun K x qual st f fd)
    (h : ∀ (kV doc pm : Value) (an : Option Addr) (cdv ct : Value) (us : List Value), us.length = ps.length → bindArgs (PySem.W.fnOf x qual (defArgs st) (defBody st) (defScope st) .none kV doc pm an cdv ct) ⟨us, []⟩ = pure (ps.zip us)) : Binds K fd ps [] := by
  obtain ⟨oc, od, kV, doc, pm, an, cdv, ct, osl, rfl, lk, hcd⟩ := F.ex
  exact .all (h kV doc pm an cdv ct)
theorem fun_mk {x qual : Str} {st : Stmt} {f : Addr} {oc : Value} {od an : Option Addr} {osl : Array (Option Value)} {kV doc pm cdv ct : Value} (l : K.lookup f = some ⟨oc, od, .func (PySem.W.fnOf x qual (defArgs st) (defBody st) (defScope st) .none kV doc pm an cdv ct), osl⟩)
    (c : PySem.W.codeIn K cdv qual = true) (k : PySem.W.keepIn K (.ref f) = true) : Fun K x qual st f (PySem.W.fnOf x qual (defArgs st) (defBody st) (defScope st) .none kV doc pm an cdv ct) := ⟨⟨oc, od, kV, doc, pm, an, cdv, ct, osl, rfl, l, c⟩, k⟩
end
theorem hu_of {A : Around} {k : Nat} (hr : Room k A) : A.units + 1 < cLine := Nat.lt_of_le_of_lt (Nat.add_le_add_left (by decide : 1 ≤ 64) _) hr.units
theorem small1000 {n : Nat} (h : n ≤ 1000) : n < sizeLine := Nat.lt_of_le_of_lt h (by decide)

/-! ### expressions in short: the name that stands in the i-th slot -/
section
variable {X : Cx}
theorem pv (i : Nat) {x : Str} {pos : Pos} (hN : X.N[i]? = some x := by rfl) (hv : Vis X.env.scope x := by first | exact Or.inl rfl | exact Or.inr (Or.inl rfl) | exact Or.inr (Or.inr rfl)) (hd : (x == ("__debug__" : Str)) = false := by decide)
    (hcd : (x == ("__classdict__" : Str)) = false := by decide) : PE X (.Name x pos) (tVar i) := pe_var hN hv hd hcd
/-- len of a dict -/
theorem call_lenD : CallR X (.builtin "len") (fun xs H Q => ∃ a kvs, xs = [V.ref a] ∧ H a = some (.dK kvs) ∧ Q (.int kvs.length) H) := by
  intro pins s σ H xs us Q I r h
  obtain ⟨a, kvs, rfl, ha, q⟩ := h
  obtain ⟨u, rfl, ru⟩ := vals1 r
  cases ru
  exact d_len I (.inl ha) fun t s' I' => ⟨.int kvs.length, H, I', ⟨t, rfl⟩, q⟩
end

/-! ### tests -/
theorem iteF {A B : Prop} (h : B) : if false = true then A else B := by
  rw [if_neg Bool.false_ne_true]
  exact h
theorem iteT {A B : Prop} (h : A) : if true = true then A else B := by
  rw [if_pos rfl]
  exact h
theorem ite2 {c A B : Prop} [Decidable c] (h1 : c → A) (h2 : ¬ c → B) : if c then A else B := by
  by_cases h : c
  · rw [if_pos h]
    exact h1 h
  · rw [if_neg h]
    exact h2 h
theorem iteNS {c A B : Prop} [Decidable c] (hc : c) (h : B) : if (!decide c) = true then A else B := by
  rw [decide_eq_true hc]
  exact iteF h

/-! ### heaps -/
/-- all that was tracked is as it was -/
def Same (H H' : Hp) : Prop := ∀ b o, H b = some o → H' b = some o
theorem Same.refl (H : Hp) : Same H H := fun _ _ h => h
theorem Same.trans {H H1 H2 : Hp} (a : Same H H1) (b : Same H1 H2) : Same H H2 := fun c o h => b c o (a c o h)
theorem Same.free {H H' : Hp} (e : Same H H') {l : Addr} (h : H' l = Option.none) : H l = Option.none := by
  cases q : H l with
  | none => rfl
  | some o =>
    rw [e l o q] at h
    cases h
theorem Same.seq {K : PySem.W.Frag} {H H' : Hp} {a : Addr} {xs : List V} (e : Same H H') (h : SqL K H a xs) : SqL K H' a xs := by
  rcases h with (h | ⟨o, h⟩) | h
  · exact .inl (.inl (e _ _ h))
  · exact .inl (.inr ⟨o, e _ _ h⟩)
  · exact .inr h

/-! ### a dict's pairs: keys that differ -/
section
variable {κ : Type} [DecidableEq κ]
theorem valV_not {kvs : List (κ × V)} {k : κ} (h : valV kvs k = none) : ¬ k ∈ kvs.map (·.1) := by
  intro m
  obtain ⟨p, hp, e⟩ := List.mem_map.mp m
  have q : (kvs.any fun kv => decide (kv.1 = k)) = true := List.any_eq_true.mpr ⟨p, hp, decide_eq_true e⟩
  rw [valV_any, h] at q
  exact absurd q (by simp)
theorem valV_in {kvs : List (κ × V)} {k : κ} {v : V} (h : valV kvs k = some v) : k ∈ kvs.map (·.1) := by
  have q : (kvs.any fun kv => decide (kv.1 = k)) = true := by
    rw [valV_any, h]
    all_goals rfl
  obtain ⟨p, hp, e⟩ := List.any_eq_true.mp q
  exact List.mem_map.mpr ⟨p, hp, of_decide_eq_true e⟩
theorem nd_snoc : ∀ {l : List κ} {k : κ}, l.Nodup → ¬ k ∈ l → (l ++ [k]).Nodup
  | [], k, _, _ => by simp
  | a :: r, k, h, hk => by
    obtain ⟨h1, h2⟩ := List.nodup_cons.mp h
    show (a :: (r ++ [k])).Nodup
    refine List.nodup_cons.mpr ⟨fun m => ?_, nd_snoc h2 fun m => hk (List.mem_cons.mpr (Or.inr m))⟩
    rcases List.mem_append.mp m with q | q
    · exact h1 q
    · exact hk (List.mem_cons.mpr (Or.inl (List.mem_singleton.mp q).symm))
theorem nd_putK {kvs : List (κ × V)} {k : κ} (v : V) (hn : (kvs.map (·.1)).Nodup) (h : valV kvs k = none) : ((putK kvs k v).map (·.1)).Nodup := by
  rw [putK_new v h, List.map_append]
  exact nd_snoc hn (valV_not h)
theorem dropK_pos {p : κ × V} {r : List (κ × V)} {k : κ} (e : p.1 = k) : dropK (p :: r) k = dropK r k := by
  unfold dropK
  rw [List.filter_cons, if_neg (by simp [e])]
theorem dropK_neg {p : κ × V} {r : List (κ × V)} {k : κ} (e : ¬ p.1 = k) : dropK (p :: r) k = p :: dropK r k := by
  unfold dropK
  rw [List.filter_cons, if_pos (by simp [e])]
theorem dropK_no : ∀ {kvs : List (κ × V)} {k : κ}, ¬ k ∈ kvs.map (·.1) → dropK kvs k = kvs
  | [], _, _ => rfl
  | p :: r, k, h => by
    have h' : ¬ k ∈ r.map (·.1) := fun m => by
      obtain ⟨q, hq, e⟩ := List.mem_map.mp m
      exact h (List.mem_map.mpr ⟨q, List.mem_cons.mpr (Or.inr hq), e⟩)
    rw [dropK_neg fun e => h (List.mem_map.mpr ⟨p, List.mem_cons.mpr (Or.inl rfl), e⟩), dropK_no h']
theorem dropK_mem {kvs : List (κ × V)} {k : κ} {p : κ × V} (h : p ∈ dropK kvs k) : p ∈ kvs := (List.mem_filter.mp h).1
theorem nd_dropK : ∀ {kvs : List (κ × V)} {k : κ}, (kvs.map (·.1)).Nodup → ((dropK kvs k).map (·.1)).Nodup
  | [], _, _ => List.nodup_nil
  | p :: r, k, h => by
    have h : (p.1 :: r.map (·.1)).Nodup := h
    obtain ⟨h1, h2⟩ := List.nodup_cons.mp h
    by_cases e : p.1 = k
    · rw [dropK_pos e]
      exact nd_dropK h2
    · rw [dropK_neg e]
      show (p.1 :: (dropK r k).map (·.1)).Nodup
      refine List.nodup_cons.mpr ⟨fun m => h1 ?_, nd_dropK h2⟩
      obtain ⟨q, hq, eq⟩ := List.mem_map.mp m
      exact List.mem_map.mpr ⟨q, dropK_mem hq, eq⟩
theorem dropK_len : ∀ {kvs : List (κ × V)} {k : κ}, (kvs.map (·.1)).Nodup → k ∈ kvs.map (·.1) → (dropK kvs k).length + 1 = kvs.length
  | [], _, _, m => by simp at m
  | p :: r, k, h, m => by
    have h : (p.1 :: r.map (·.1)).Nodup := h
    have m : k = p.1 ∨ k ∈ r.map (·.1) := List.mem_cons.mp m
    obtain ⟨h1, h2⟩ := List.nodup_cons.mp h
    by_cases e : p.1 = k
    · subst e
      rw [dropK_pos rfl, dropK_no h1]
      all_goals rfl
    · have m' : k ∈ r.map (·.1) := m.resolve_left fun z => e z.symm
      have q := dropK_len h2 m'
      rw [dropK_neg e, List.length_cons, List.length_cons]
      omega
end
end L2

set_option Elab.async false
set_option linter.all false
set_option maxRecDepth 100000
namespace L2
open PySem PySem.Spec PyProof.Rows

/-! ### a comprehension's own block: its names, its values at the entry -/
def maskσ : List Bool → St → St
  | [], _ => []
  | _ :: ms, [] => none :: maskσ ms []
  | b :: ms, v :: σ => (if b = true then none else v) :: maskσ ms σ
theorem maskσ_length : ∀ (ms : List Bool) (σ : St), (maskσ ms σ).length = ms.length
  | [], _ => rfl
  | _ :: ms, [] => by simp [maskσ, maskσ_length ms []]
  | _ :: ms, _ :: σ => by simp [maskσ, maskσ_length ms σ]
theorem maskσ_get : ∀ {ms : List Bool} {σ : St} {i : Nat} {v : V}, (maskσ ms σ)[i]? = some (some v) → ms[i]? = some false ∧ σ[i]? = some (some v)
  | [], _, _, _, h => by simp [maskσ] at h
  | b :: ms, [], 0, v, h => by simp [maskσ] at h
  | b :: ms, [], i + 1, v, h => by
    have q := maskσ_get (ms := ms) (σ := []) (i := i) (v := v) (by simpa [maskσ] using h)
    simp at q
  | b :: ms, u :: σ, 0, v, h => by
    cases b with
    | true => simp [maskσ] at h
    | false => simp [maskσ] at h; simp [h]
  | b :: ms, u :: σ, i + 1, v, h => by
    have q := maskσ_get (ms := ms) (σ := σ) (i := i) (v := v) (by simpa [maskσ] using h)
    simpa using q

def closL (env : Env) : List (Str × NameKind) → List (Str × Addr) → List (Str × Addr)
  | [], cs => cs
  | (n, k) :: r, cs => closL env r (if k = .free then (match env.cells.lookup n with | some c => (n, c) :: cs | none => cs) else cs)
theorem closL_sub {env : Env} : ∀ (names : List (Str × NameKind)) (cs : List (Str × Addr)), (∀ x c, cs.lookup x = some c → env.cells.lookup x = some c) →
    ∀ x c, (closL env names cs).lookup x = some c → env.cells.lookup x = some c
  | [], cs, h, x, c, e => h x c e
  | (n, k) :: r, cs, h, x, c, e => by
    refine closL_sub r _ (fun y d q => ?_) x c e
    by_cases hk : k = .free
    · rw [if_pos hk] at q
      cases hn : env.cells.lookup n with
      | none => rw [hn] at q; exact h y d q
      | some a =>
        rw [hn] at q
        simp only [List.lookup_cons] at q
        cases hy : y == n with
        | true =>
          rw [hy] at q
          have : y = n := by simpa using hy
          subst this
          rw [hn]; exact q
        | false => rw [hy] at q; exact h y d q
    · rw [if_neg hk] at q; exact h y d q
theorem closL_has {env : Env} : ∀ (names : List (Str × NameKind)) (cs : List (Str × Addr)) (x : Str), (∀ p ∈ names, p.2 = .free → ∃ c, env.cells.lookup p.1 = some c) →
    ((x, NameKind.free) ∈ names ∨ ∃ c, cs.lookup x = some c) → ∃ c, (closL env names cs).lookup x = some c
  | [], cs, x, _, h => by
    rcases h with h | h
    · cases h
    · exact h
  | (n, k) :: r, cs, x, hf, h => by
    refine closL_has r _ x (fun p hp => hf p (List.mem_cons_of_mem _ hp)) ?_
    by_cases hk : k = .free
    · obtain ⟨c, hc⟩ := hf (n, k) List.mem_cons_self hk
      simp only at hc
      rw [if_pos hk, hc]
      rcases h with h | ⟨d, hd⟩
      · rcases List.mem_cons.mp h with e | e
        · cases e
          exact .inr ⟨c, by simp⟩
        · exact .inl e
      · refine .inr ?_
        simp only [List.lookup_cons]
        cases hy : x == n with
        | true => exact ⟨c, rfl⟩
        | false => exact ⟨d, hd⟩
    · rw [if_neg hk]
      rcases h with h | h
      · rcases List.mem_cons.mp h with e | e
        · cases e; exact absurd rfl hk
        · exact .inl e
      · exact .inr h
theorem clos_loop {env : Env} {f : Str × NameKind → List (Str × Addr) → Sem (ForInStep (List (Str × Addr)))} (h1 : ∀ n c cs, env.cells.lookup n = some c → f (n, .free) cs = pure (.yield ((n, c) :: cs)))
    (h2 : ∀ n k cs, k ≠ NameKind.free → f (n, k) cs = pure (.yield cs)) :
    ∀ (names : List (Str × NameKind)) (cs : List (Str × Addr)), (∀ p ∈ names, p.2 = .free → ∃ c, env.cells.lookup p.1 = some c) → forIn names cs f = pure (closL env names cs)
  | [], cs, _ => rfl
  | (n, k) :: r, cs, hf => by
    rw [List.forIn_cons]
    by_cases hk : k = .free
    · subst hk
      obtain ⟨c, hc⟩ := hf (n, .free) List.mem_cons_self rfl
      simp only at hc
      rw [h1 n c cs hc]
      show forIn r ((n, c) :: cs) f = _
      rw [clos_loop h1 h2 r _ fun p hp => hf p (List.mem_cons_of_mem _ hp)]
      simp [closL, hc]
    · rw [h2 n k cs hk]
      show forIn r cs f = _
      rw [clos_loop h1 h2 r _ fun p hp => hf p (List.mem_cons_of_mem _ hp)]
      simp [closL, hk]
theorem clos_eq {scope : Scope} {env : Env} (hf : ∀ p ∈ scope.names, p.2 = .free → ∃ c, env.cells.lookup p.1 = some c) : closureFor scope env = pure (closL env scope.names []) := by
  simp only [closureFor]
  rw [clos_loop (env := env) (fun n c cs hc => ?_) (fun n k cs hk => ?_) scope.names [] hf]
  · rfl
  · simp [cellOf, hc]
  · have : (k == NameKind.free) = false := by simpa using hk
    simp [this]

theorem relabel_look (env : Env) (x : Str) : ∀ (names : List (Str × NameKind)), (names.map fun (p : Str × NameKind) => match p with
      | (n, k) => if (k == NameKind.free && env.scope.kind == .function && env.kindOf n == some .cell) = true then (n, NameKind.cell) else (n, k)).lookup x =
    (names.lookup x).map fun k => if (k == NameKind.free && env.scope.kind == .function && env.kindOf x == some .cell) = true then NameKind.cell else k
  | [] => rfl
  | (n, k) :: r => by
    have ih := relabel_look env x r
    rw [List.map_cons]
    by_cases hc : (k == NameKind.free && env.scope.kind == .function && env.kindOf n == some .cell) = true
    · simp only [if_pos hc, List.lookup_cons]
      cases hx : x == n with
      | true =>
        have : x = n := by simpa using hx
        subst this
        exact (congrArg some (if_pos hc)).symm
      | false => exact ih
    · simp only [if_neg hc, List.lookup_cons]
      cases hx : x == n with
      | true =>
        have : x = n := by simpa using hx
        subst this
        exact (congrArg some (if_neg hc)).symm
      | false => exact ih
theorem relabel_lookup (scope : Scope) (env : Env) (x : Str) : (relabel scope env).names.lookup x =
    (scope.names.lookup x).map fun k => if (k == NameKind.free && env.scope.kind == .function && env.kindOf x == some .cell) = true then NameKind.cell else k := relabel_look env x scope.names

structure CompOk (sc0 : Scope) (N : List Str) (scope : Scope) (N' : List Str) (ms : List Bool) : Prop where
  kind : scope.kind = .function
  nocell : ∀ y ∈ scope.names, y.2 ≠ .cell
  nm : ∀ y ∈ scope.names, y.2 = .local → scope.names.lookup y.1 = some .local
  fr : ∀ y ∈ scope.names, y.2 = .free → sc0.names.lookup y.1 = some .cell ∨ sc0.names.lookup y.1 = some .free
  len : ms.length = N'.length
  own : ∀ (i : Nat) (x : Str), N'[i]? = some x → ms[i]? = some false → scope.names.lookup x ≠ some .local
  out : ∀ (i : Nat) (x : Str), N'[i]? = some x → ms[i]? = some false → scope.names.lookup x = some .free → N[i]? = some x
def slotsB (N : List Str) (scope : Scope) : List Str → List Bool → List (Option Str) → Bool
  | x :: N', false :: ms, o => (scope.names.lookup x != some .local) && (scope.names.lookup x != some .free || o.head? == some (some x)) && slotsB N scope N' ms o.tail
  | _ :: N', true :: ms, o => slotsB N scope N' ms o.tail
  | _, _, _ => true
theorem slotsB_get {N : List Str} {scope : Scope} : ∀ (N' : List Str) (ms : List Bool) (o : List (Option Str)), slotsB N scope N' ms o = true → ∀ (i : Nat) (x : Str), N'[i]? = some x → ms[i]? = some false →
    scope.names.lookup x ≠ some .local ∧ (scope.names.lookup x = some .free → o[i]? = some (some x))
  | [], _, _, _, i, x, e, _ => by simp at e
  | _ :: _, [], _, _, i, x, _, e => by simp at e
  | y :: N', false :: ms, o, h, i, x, e1, e2 => by
    simp only [slotsB, Bool.and_eq_true, bne_iff_ne, ne_eq, Bool.or_eq_true, beq_iff_eq] at h
    cases i with
    | zero =>
      simp at e1; subst e1
      refine ⟨h.1.1, fun q => ?_⟩
      rcases h.1.2 with z | z
      · exact absurd q z
      · cases o with
        | nil => simp at z
        | cons a r => simpa using z
    | succ i =>
      have q := slotsB_get N' ms o.tail h.2 i x (by simpa using e1) (by simpa using e2)
      refine ⟨q.1, fun z => ?_⟩
      have := q.2 z
      cases o with
      | nil => simp at this
      | cons a r => simpa using this
  | y :: N', true :: ms, o, h, i, x, e1, e2 => by
    simp only [slotsB] at h
    cases i with
    | zero => simp at e2
    | succ i =>
      have q := slotsB_get N' ms o.tail h i x (by simpa using e1) (by simpa using e2)
      refine ⟨q.1, fun z => ?_⟩
      have := q.2 z
      cases o with
      | nil => simp at this
      | cons a r => simpa using this
theorem CompOk.mk' {sc0 : Scope} {N : List Str} {scope : Scope} {N' : List Str} {ms : List Bool} (kind : scope.kind = .function) (nocell : ∀ y ∈ scope.names, y.2 ≠ .cell)
    (nm : ∀ y ∈ scope.names, y.2 = .local → scope.names.lookup y.1 = some .local) (fr : ∀ y ∈ scope.names, y.2 = .free → sc0.names.lookup y.1 = some .cell ∨ sc0.names.lookup y.1 = some .free)
    (len : ms.length = N'.length) (sl : slotsB N scope N' ms (N.map some) = true) : CompOk sc0 N scope N' ms :=
  ⟨kind, nocell, nm, fr, len, fun i x e1 e2 => (slotsB_get N' ms _ sl i x e1 e2).1, fun i x e1 e2 e3 => by
    have q := (slotsB_get N' ms _ sl i x e1 e2).2 e3
    rw [List.getElem?_map] at q
    cases h : N[i]? with
    | none => rw [h] at q; cases q
    | some a => rw [h] at q; simpa using q⟩

def cxComp (X : Cx) (N' : List Str) (scope : Scope) (cl : List (Str × Addr)) (C : Addr) (fp : List Addr) (s3 : Shared) (H3 : Hp) : Cx where
  prog := X.prog
  w := X.w
  K := X.K
  mg := X.mg
  base := X.base
  A := X.A
  N := N'
  s₀ := s3
  H₀ := H3
  env := compEnvC scope cl C X.env
  outer := X.stack
  stack := X.stack
  ex := fp
  fn := fun _ => false
  calm := X.calm
  pn := []
  xe := fun _ _ => False

section
variable {X : Cx} {pins : List (Addr × Obj)} {σ : St} {H : Hp} {N' : List Str} {scope : Scope} {ms : List Bool} {fp : List Addr}

theorem CompOk.cells (ok : CompOk X.env.scope X.N scope N' ms) (k : X.Ok) : ∀ p ∈ scope.names, p.2 = .free → ∃ c, X.env.cells.lookup p.1 = some c := fun p hp e => k.has p.1 (ok.fr p hp e)
theorem cl_sub {x : Str} {c : Addr} (e : (closL X.env scope.names []).lookup x = some c) : X.env.cells.lookup x = some c := closL_sub _ [] (fun _ _ q => by cases q) x c e
theorem CompOk.kinds (ok : CompOk X.env.scope X.N scope N' ms) {x : Str} (h : (relabel scope X.env).names.lookup x = some .cell ∨ (relabel scope X.env).names.lookup x = some .free) : scope.names.lookup x = some .free := by
  rw [relabel_lookup] at h
  cases e : scope.names.lookup x with
  | none => rw [e] at h; rcases h with h | h <;> cases h
  | some k =>
    rw [e] at h
    simp only [Option.map_some, Option.some.injEq] at h
    by_cases hk : k = .free
    · rw [hk]
    · have hb : (k == NameKind.free) = false := by simpa using hk
      simp only [hb, Bool.false_and, Bool.false_eq_true, if_false] at h
      rcases h with h | h
      · exact absurd h (ok.nocell _ (PySem.mem_of_lookup e))
      · exact absurd h hk
theorem CompOk.locals (ok : CompOk X.env.scope X.N scope N' ms) {x : Str} (h : (relabel scope X.env).names.lookup x = some .local) : scope.names.lookup x = some .local := by
  rw [relabel_lookup] at h
  cases e : scope.names.lookup x with
  | none => rw [e] at h; cases h
  | some k =>
    rw [e] at h
    simp only [Option.map_some, Option.some.injEq] at h
    split at h
    · cases h
    · rw [h]

theorem comp_ok {s3 : Shared} (ok : CompOk X.env.scope X.N scope N' ms) (I : Inv X pins σ H s3) (hf : ∀ b ∈ fp, FpOk X pins H b ∧ b < s3.heap.objs.size) :
    (cxComp X N' scope (closL X.env scope.names []) s3.heap.objs.size fp s3 H).Ok where
  mod := I.ok.mod
  kind := ok.kind
  glob := I.ok.glob
  blt := I.ok.blt
  above := Nat.le_refl _
  inj := fun x y c h1 h2 => I.ok.inj x y c (cl_sub h1) (cl_sub h2)
  has := fun x hx => by
    have q := ok.kinds hx
    exact closL_has _ [] x (ok.cells I.ok) (.inl (PySem.mem_of_lookup q))
  cab := fun x c h => by cases h
  hd := I.ok.hd
  frames := I.ok.frames
  stk := .inl rfl
  exf := fun b hb => ⟨Nat.ne_of_lt (hf b hb).2, fun x c e => (hf b hb).1.2.2.2.2.1 x c (cl_sub e)⟩
  bs := fun b o e => I.bs b o e
  bsz := Nat.le_trans I.ok.bsz I.sz
  noex := fun b o e hb => by
    rcases (hf b hb).1.2.2.2.1 with z | z
    · exact I.ok.noex b o e z
    · exact absurd (Nat.lt_of_lt_of_le (Nat.lt_of_lt_of_le (Heap.lt_size e) I.ok.bsz) z) (Nat.lt_irrefl _)
  exfs := fun b hb z => by
    rcases List.mem_cons.mp (I.stkSub b z) with e | e
    · exact (hf b hb).1.2.1 e
    · exact (hf b hb).1.2.2.1 e
  funs := I.stack
  frf := I.stkFree

theorem comp_loc {h' : Heap} {s5 : Shared} {C : Addr} {m : Str → Option Value} (ok : CompOk X.env.scope X.N scope N' ms) (I : Inv X pins σ H s5) (hk : ∀ b o, s5.heap.get? b = some o → h'.get? b = some o) :
    ∀ (i : Nat) (x : Str) (v : V), N'[i]? = some x → (maskσ ms σ)[i]? = some (some v) → Vis (relabel scope X.env) x → ∃ u, RelV v u ∧ Look (compEnvC scope (closL X.env scope.names []) C X.env) h' m x u := by
  intro i x v e1 e2 e3
  obtain ⟨em, ev⟩ := maskσ_get e2
  rcases e3 with e3 | e3
  · exact absurd (ok.locals e3) (ok.own i x e1 em)
  · have q := ok.kinds e3
    have en := ok.out i x e1 em q
    have fr := ok.fr _ (PySem.mem_of_lookup q) rfl
    obtain ⟨m0, _, hl⟩ := I.loc
    obtain ⟨u, r, l⟩ := hl i x v en ev (.inr fr)
    refine ⟨u, r, ?_⟩
    rcases l with ⟨k, _⟩ | ⟨k, c, e, o, ho, hd⟩
    · have k' : X.env.scope.names.lookup x = some .local := k
      rcases fr with fr | fr
      · have fr' : X.env.scope.names.lookup x = some .cell := fr
        rw [fr'] at k'; cases k'
      · have fr' : X.env.scope.names.lookup x = some .free := fr
        rw [fr'] at k'; cases k'
    · obtain ⟨c', hc'⟩ := closL_has _ [] x (ok.cells I.ok) (.inl (PySem.mem_of_lookup q))
      have z := cl_sub hc'
      rw [e] at z; cases z
      exact .inr ⟨e3, c, hc', o, hk c o ho, hd⟩

theorem comp_start {s3 : Shared} {h4 : Heap} {tk : Nat} {m : Str → Option Value} (ok : CompOk X.env.scope X.N scope N' ms) (I : Inv X pins σ H s3) (hf : ∀ b ∈ fp, FpOk X pins H b ∧ b < s3.heap.objs.size)
    (hn : h4.Ns s3.heap.objs.size m) (hk : ∀ b o, s3.heap.get? b = some o → h4.get? b = some o) :
    Inv (cxComp X N' scope (closL X.env scope.names []) s3.heap.objs.size fp s3 H) [] (maskσ ms σ) H { s3 with heap := h4, toks := tk } where
  ok := comp_ok ok I hf
  os := rfl
  bare := I.bare
  base := Un.kept hk
  loc := ⟨m, hn, comp_loc ok I hk⟩
  cell := fun x c e => by
    obtain ⟨v, o, ho, hd⟩ := I.cell x c (cl_sub e)
    exact ⟨v, o, hk c o ho, hd⟩
  free := I.hok.fresh (Nat.le_refl _)
  freeC := fun x c e => I.freeC x c (cl_sub e)
  pin := fun p hp => absurd (show p ∈ ([] : List (Addr × Obj)) from hp) (by simp)
  hok := I.hok.kept hk
  len := by rw [maskσ_length, ok.len]; rfl

theorem comp_back {pins' : List (Addr × Obj)} {σ' : St} {H' : Hp} {s3 s' : Shared} {cl : List (Str × Addr)} {C : Addr} (I : Inv X pins σ H s3) (hf : ∀ b ∈ fp, FpOk X pins H b ∧ b < s3.heap.objs.size)
    (J : Inv (cxComp X N' scope cl C fp s3 H) pins' σ' H' s') : Inv X pins σ H' s' :=
  I.call' J.os J.base J.hok J.bare fun b hb => by
    obtain ⟨_, f1, _, f3, f4, f5⟩ := (hf b hb).1
    exact ⟨f3, f1, f4, f5⟩

theorem comp_again {pins' : List (Addr × Obj)} {σ' : St} {H' : Hp} {s3 s' : Shared} (ok : CompOk X.env.scope X.N scope N' ms) (I : Inv X pins σ H s3) (hf : ∀ b ∈ fp, FpOk X pins H b ∧ b < s3.heap.objs.size)
    (J : Inv (cxComp X N' scope (closL X.env scope.names []) s3.heap.objs.size fp s3 H) pins' σ' H' s') : Inv (cxComp X N' scope (closL X.env scope.names []) s3.heap.objs.size fp s3 H) [] (maskσ ms σ) H' s' where
  ok := J.ok
  os := J.os
  bare := J.bare
  base := J.base
  loc := by
    obtain ⟨m, hn, _⟩ := J.loc
    exact ⟨m, hn, comp_loc ok (comp_back I hf J) fun _ _ e => e⟩
  cell := J.cell
  free := J.free
  freeC := J.freeC
  pin := fun p hp => absurd (show p ∈ ([] : List (Addr × Obj)) from hp) (by simp)
  hok := J.hok
  len := by rw [maskσ_length, ok.len]; rfl
end

/-! ### the clauses' tests -/
def PIfs (X : Cx) (ifs : List Expr) (t : TT) : Prop :=
  ∀ (pins : List (Addr × Obj)) (s : Shared) (σ : St) (H : Hp) (Q : Bool → Hp → Prop), Inv X pins σ H s → t σ H Q →
    wpAny (model X.prog X.w) X.A (forIn ifs true fun c r => if r = true then do let ok ← isTrue c X.env (eval c X.env); pure (ForInStep.yield ok) else pure (ForInStep.yield r)) (TP X pins σ Q) X.xe s
def tTrue : TT := fun _ H Q => Q true H
theorem pifs_nil {X : Cx} : PIfs X [] tTrue := fun _ _ _ H _ I h => wpAny_tests_nil ⟨H, I, h⟩
theorem pifs_one {X : Cx} {c : Expr} {t : TT} (h : PT X c t) : PIfs X [c] t := fun pins s σ H Q I q => wpAny_tests_one (h pins s σ H Q I q)

/-! ### the loop of a comprehension -/
theorem comp_loop {prog : Program} {w : World} {A : Around} {R : Result → Shared → Prop} {s : Shared} {elt target iter : Expr} {ifs : List Expr} {scope : Scope} {pos : Pos} {it acc : Value} {env : Env} (I : Nat → Shared → Prop)
    (turn : ∀ n s (E : Value → Shared → Prop), I n s → wpAny (model prog w) A (pyNext it) (fun r s1 => match r with
      | none => R (.ok .next) s1
      | some v => wpAny (model prog w) A (letOwnedTupleGo target it v) (fun _ s2 => wpAny (model prog w) A (assign target env v) (fun _ s3 =>
          wpAny (model prog w) A (forIn ifs true fun c r => if r = true then do let ok ← isTrue c env (eval c env); pure (ForInStep.yield ok) else pure (ForInStep.yield r)) (fun ok s4 =>
            if ok = true then wpAny (model prog w) A (eval elt env) (fun x s5 => wpAny (model prog w) A (call (.builtin "list.append") [acc, x]) (fun _ s6 => ∃ m, m < n ∧ I m s6) E s5) E s4
            else ∃ m, m < n ∧ I m s4) E s3) E s2) E s1) E s)
    (n : Nat) (h : I n s) : codeAny (model prog w) A (.compLoop (.ListComp elt [⟨target, iter, ifs, 0⟩] scope pos) 0 it acc env) R s := by
  refine codeAny_loop rfl I (fun n s hI => ?_) n h
  refine wpAny_noted (env := env) ?_
  rw [compTurn_list]
  refine wpAny_bind (wpAny_standAt (wpAny_bind ?_))
  refine wpAny_mono (turn n s _ hI) (fun r s1 h1 => ?_) fun _ _ e => e
  cases r with
  | none => exact wpAny_pure h1
  | some v =>
    refine wpAny_bind (wpAny_mono h1 (fun _ s2 h2 => ?_) fun _ _ e => e)
    refine wpAny_bind (wpAny_mono h2 (fun _ s3 h3 => ?_) fun _ _ e => e)
    refine wpAny_bind (wpAny_mono h3 (fun ok s4 h4 => ?_) fun _ _ e => e)
    cases ok with
    | false => exact wpAny_pure ⟨rfl, h4⟩
    | true =>
      refine wpAny_bind (wpAny_bind (wpAny_mono h4 (fun x s5 h5 => ?_) fun _ _ e => e))
      exact wpAny_bind (wpAny_mono h5 (fun _ s6 h6 => wpAny_pure (wpAny_pure ⟨rfl, h6⟩)) fun _ _ e => e)

/-! ### [elt for target in iter if ..] -/
def tComp (ms : List Bool) (wi : TI) (g : TG) (tt : TT) (te : TE) : TE := fun σ H Q => wi σ H fun J H1 => ∀ D, H1 D = none →
  ∃ W : Nat → Nat → List V → Hp → Prop, (∃ m, W 0 m [] (upd H1 D (.lst []))) ∧ ∀ i m ys H, W i m ys H → H D = some (.lst ys) ∧
    ((J.stop i H ∧ Q (.ref D) H) ∨ (J.go i H ∧ ys.length < sizeLine ∧ ∃ N : List V → Hp → Prop, (∀ ys' H', N ys' H' → ∃ m', m' < m ∧ W (i + 1) m' ys' H') ∧
      ∀ x H', J.yld i H x H' → g x (maskσ ms σ) H' fun σ2 H2 => tt σ2 H2 fun b H3 => if b = true then te σ2 H3 fun y H4 => H4 D = some (.lst ys) ∧ N (ys ++ [y]) (upd H4 D (.lst (ys ++ [y]))) else N ys H3))

section
variable {X : Cx} {tg iter elt : Expr} {ifs : List Expr} {scope : Scope} {pos : Pos} {N' : List Str} {ms : List Bool} {wi : TI} {g : TG} {tt : TT} {te : TE}

set_option maxHeartbeats 4000000 in
theorem comp_core {pins : List (Addr × Obj)} {s : Shared} {σ : St} {H : Hp} {Q : VK} {RR : Value → Addr → Result → Shared → Prop} (hc : X.calm = true) (ok : CompOk X.env.scope X.N scope N' ms) (hi : PI X tg iter wi)
    (hg : ∀ cl C fp s3 H3, PG (cxComp X N' scope cl C fp s3 H3) tg g) (ht : ∀ cl C fp s3 H3, PIfs (cxComp X N' scope cl C fp s3 H3) ifs tt) (he : ∀ cl C fp s3 H3, PE (cxComp X N' scope cl C fp s3 H3) elt te)
    (I : Inv X pins σ H s) (h : tComp ms wi g tt te σ H Q)
    (hRR : ∀ D C H' s' m, s'.heap.Ns C m → Inv X pins σ H' s' → FpOk X pins H' C → Q (.ref D) H' → RR (.ref D) C (.ok .next) s') :
    wpAny (model X.prog X.w) X.A (eval iter X.env) (fun x s1 => wpAny (model X.prog X.w) X.A (pyIter x) (fun it s2 => wpAny (model X.prog X.w) X.A (newList []) (fun acc s3 =>
      wpAny (model X.prog X.w) X.A (newFunctionEnv scope X.env.globals (closL X.env scope.names []) [] X.env.qual none .none (some X.env)) (fun cenv s4 =>
        codeAny (model X.prog X.w) X.A (.compStart (.ListComp elt [⟨tg, iter, ifs, 0⟩] scope pos) 0 it acc { cenv with scope := relabel scope X.env }) (RR acc cenv.locals) s4) X.xe s3) X.xe s2) X.xe s1) X.xe s := by
  refine thn (hi pins s σ H _ I h) fun v s1 h1 => thn h1 fun itv s2 h2 => ?_
  obtain ⟨it, fp, tn, J, H2, e, I2, T, st2, f2, h2⟩ := h2
  subst e
  obtain ⟨W, ⟨m0, w0⟩, turn⟩ := h2 s2.heap.objs.size I2.fresh
  refine wpAny_newObj_type ?_
  have I3 := I2.lnew (ys := []) (its := []) (t' := s2.toks) .nil (Nat.zero_le _)
  generalize hs3 : ({ s2 with heap := s2.heap.push { cls := .type "list", data := .seq ([] : List Value).toArray }, toks := s2.toks } : Shared) = s3 at I3
  refine wpAny_newFunctionEnv ok.nocell (by intro y hy; simp at hy) (fun h4 hn4 hs4 => ?_) ok.kind
  have sz : s3.heap.objs.size = s2.heap.objs.size + 1 := by rw [← hs3]; exact Heap.size_push ..
  have old2 : ∀ b o, s2.heap.get? b = some o → s3.heap.get? b = some o := fun b o e => by rw [← hs3]; exact Heap.get?_push_of_some _ e
  have old : ∀ b o, s3.heap.get? b = some o → h4.get? b = some o := fun b o e => hs4.extBut b o (Nat.ne_of_lt (Heap.lt_size e)) (Heap.get?_push_of_some _ e)
  have fp2 : ∀ b ∈ fp, b < s2.heap.objs.size := fun b hb => by
    obtain ⟨o, ho, _⟩ := T.obj 0 _ st2 b hb
    exact Heap.lt_size ho
  have nD : ∀ b ∈ fp, b ≠ s2.heap.objs.size := fun b hb => Nat.ne_of_lt (fp2 b hb)
  have f3 : ∀ b ∈ fp, FpOk X pins (upd H2 s2.heap.objs.size (.lst [])) b ∧ b < s3.heap.objs.size := fun b hb => by
    refine ⟨⟨?_, (f2 b hb).2⟩, by rw [sz]; exact Nat.lt_succ_of_lt (fp2 b hb)⟩
    rw [upd_ne (nD b hb)]; exact (f2 b hb).1
  have J4 : Inv (cxComp X N' scope (closL X.env scope.names []) s3.heap.objs.size fp s3 (upd H2 s2.heap.objs.size (.lst []))) [] (maskσ ms σ) (upd H2 s2.heap.objs.size (.lst [])) { s3 with heap := h4, toks := s3.toks + 0 } :=
    comp_start ok I3 f3 hn4 old
  have stat : ∀ {H' : Hp}, (∀ b ∈ fp, H' b = none) → ∀ b ∈ fp, FpOk (cxComp X N' scope (closL X.env scope.names []) s3.heap.objs.size fp s3 (upd H2 s2.heap.objs.size (.lst []))) [] H' b := fun hn b hb =>
    ⟨hn b hb, (J4.ok.exf b hb).1, J4.ok.exfs b hb, .inl hb, (J4.ok.exf b hb).2, fun p hp => absurd (show p ∈ ([] : List (Addr × Obj)) from hp) (by simp)⟩
  have loop : codeAny (model X.prog X.w) X.A (.compLoop (.ListComp elt [⟨tg, iter, ifs, 0⟩] scope pos) 0 (.ref it) (.ref s2.heap.objs.size) (compEnvC scope (closL X.env scope.names []) s3.heap.objs.size X.env))
      (RR (.ref s2.heap.objs.size) s3.heap.objs.size) { s3 with heap := h4, toks := s3.toks + 0 } := by
    refine comp_loop (fun n s' => ∃ i H' ys, Inv (cxComp X N' scope (closL X.env scope.names []) s3.heap.objs.size fp s3 (upd H2 s2.heap.objs.size (.lst []))) [] (maskσ ms σ) H' s' ∧ tn i s'.heap ∧ (∀ b ∈ fp, H' b = none) ∧ W i n ys H') ?_ m0
      ⟨0, _, [], J4, T.keep 0 _ _ st2 fun b hb o e => old b o (old2 b o e), fun b hb => (f3 b hb).1.1, w0⟩
    rintro n s5 E ⟨i, H5, ys, J5, st5, fr5, w5⟩
    obtain ⟨hD, alt⟩ := turn i n ys H5 w5
    rcases alt with ⟨stop, q⟩ | ⟨go, hz, N, hN, step⟩
    · refine thn (T.done (cxComp X N' scope (closL X.env scope.names []) s3.heap.objs.size fp s3 (upd H2 s2.heap.objs.size (.lst []))) rfl rfl rfl hc i [] s5 _ H5 E J5 (stat fr5) st5 stop) fun r s6 ⟨hr, J6⟩ => ?_
      subst hr
      obtain ⟨m, hn, _⟩ := id J6.loc
      have I6 := comp_back I3 f3 J6
      refine hRR _ _ H5 s6 m hn I6 ?_ q
      have hC : H5 s3.heap.objs.size = none := J6.free
      obtain ⟨g0, g1, g2, g3, g4, g5⟩ := I3.fpOk (b := s3.heap.objs.size) (H' := H5) (Nat.le_refl _) hC
      exact ⟨g0, g1, g2, g3, g4, g5⟩
    · refine thn (T.item (cxComp X N' scope (closL X.env scope.names []) s3.heap.objs.size fp s3 (upd H2 s2.heap.objs.size (.lst []))) rfl rfl rfl hc i [] s5 _ H5 E J5 (stat fr5) st5 go) fun r s6 ⟨u, hr, h6⟩ => ?_
      subst hr
      refine thn h6 fun _ s7 ⟨x, H7, J7, r7, y7, st7, fr7⟩ => ?_
      have J7' := J7.pinned (stat fr7) (T.obj _ _ st7)
      have again : ∀ {σ8 : St} {H8 : Hp} {s8 : Shared} {zs : List V}, Inv (cxComp X N' scope (closL X.env scope.names []) s3.heap.objs.size fp s3 (upd H2 s2.heap.objs.size (.lst []))) ([] ++ pinsAt fp s7.heap) σ8 H8 s8 → N zs H8 →
          ∃ m, m < n ∧ ∃ i H' ys, Inv (cxComp X N' scope (closL X.env scope.names []) s3.heap.objs.size fp s3 (upd H2 s2.heap.objs.size (.lst []))) [] (maskσ ms σ) H' s8 ∧ tn i s8.heap ∧ (∀ b ∈ fp, H' b = none) ∧ W i m ys H' := fun {σ8 H8 s8 zs} J8 n8 => by
        obtain ⟨m', hm, w8⟩ := hN zs H8 n8
        refine ⟨m', hm, i + 1, H8, zs, comp_again ok I3 f3 J8, T.keep _ _ _ st7 fun b hb o e => (J8.pin (b, o) (List.mem_append_right _ (List.mem_append_right _ (mem_pinsAt hb e)))).1, fun b hb => ?_, w8⟩
        obtain ⟨o, e, d⟩ := T.obj _ _ st7 b hb
        exact (J8.pin (b, o) (List.mem_append_right _ (List.mem_append_right _ (mem_pinsAt hb e)))).2.1
      refine wpAny_mono (hg _ _ _ _ _ _ s7 _ H7 x u _ J7' r7 (step x H7 y7)) (fun _ s8 ⟨σ8, H8, J8, q8⟩ => ?_) fun _ _ z => False.elim z
      refine wpAny_mono (ht _ _ _ _ _ _ s8 σ8 H8 _ J8 q8) (fun b s9 ⟨H9, J9, q9⟩ => ?_) fun _ _ z => False.elim z
      cases b with
      | false => exact again J9 q9
      | true =>
        refine wpAny_mono (he _ _ _ _ _ _ s9 σ8 H9 _ J9 q9) (fun v s10 ⟨y, H10, J10, r10, hD10, q10⟩ => ?_) fun _ _ z => False.elim z
        refine wpAny_mono (mt_append (X := (cxComp X N' scope (closL X.env scope.names []) s3.heap.objs.size fp s3 (upd H2 s2.heap.objs.size (.lst [])))) _ s10 σ8 H10 (.ref s2.heap.objs.size) [y] (.ref s2.heap.objs.size) [v] (fun _ H' => H' = upd H10 s2.heap.objs.size (.lst (ys ++ [y]))) J10 rfl (.cons r10 .nil) ⟨_, ys, y, rfl, rfl, hD10, hz, rfl⟩)
          (fun _ s11 ⟨_, H11, J11, _, e11⟩ => ?_) fun _ _ z => False.elim z
        subst e11
        exact again J11 q10
  exact codeAny_compStart_list loop (T.self _ 0 _ _ _ (T.keep 0 _ _ st2 fun b hb o e => old b o (old2 b o e)) loop)

theorem pe_comp (hc : X.calm = true) (ok : CompOk X.env.scope X.N scope N' ms) (hi : PI X tg iter wi)
    (hg : ∀ cl C fp s3 H3, PG (cxComp X N' scope cl C fp s3 H3) tg g) (ht : ∀ cl C fp s3 H3, PIfs (cxComp X N' scope cl C fp s3 H3) ifs tt) (he : ∀ cl C fp s3 H3, PE (cxComp X N' scope cl C fp s3 H3) elt te)
    (hs : ∀ x, foldedSetIterable iter X.env x = pure x := by intro _; rfl) : PE X (.ListComp elt [⟨tg, iter, ifs, 0⟩] scope pos) (tComp ms wi g tt te) := by
  intro pins s σ H Q I h
  rw [eval_ListComp]
  refine wpAny_comprehension_free (use := none) rfl hs (clos_eq (ok.cells I.ok)) ok.kind ok.nm ?_
  refine comp_core (RR := fun acc C => compPost (model X.prog X.w) X.A X.xe none (EP X pins σ Q) acc C) hc ok hi hg ht he I h fun D C H' s' m hn I' ⟨g0, g1, g2, g3, g4, g5⟩ q => ?_
  refine ⟨m, hn, fun h' sb => ⟨.ref D, H', ?_, rfl, q⟩⟩
  exact I'.turned (t' := s'.toks) (fun b o hb e => sb.extBut b o hb e) g0 g1 g3 g4 g5

/-- name = [elt for ..]: the name is stored ahead of the block's end -/
theorem ps_setComp {i : Nat} {y : Str} {py spos : Pos} (hN : X.N.Nodup) (hy : X.N[i]? = some y) (hl : X.env.scope.names.lookup y = some .local) (hc : X.calm = true) (ok : CompOk X.env.scope X.N scope N' ms) (hi : PI X tg iter wi)
    (hg : ∀ cl C fp s3 H3, PG (cxComp X N' scope cl C fp s3 H3) tg g) (ht : ∀ cl C fp s3 H3, PIfs (cxComp X N' scope cl C fp s3 H3) ifs tt) (he : ∀ cl C fp s3 H3, PE (cxComp X N' scope cl C fp s3 H3) elt te)
    (hsw : swapsWith (.ListComp elt [⟨tg, iter, ifs, 0⟩] scope pos) (some (.Name y py)) spos.line X.env = pure true := by rfl)
    (hs : ∀ x, foldedSetIterable iter X.env x = pure x := by intro _; rfl) : PS X (.Assign [.Name y py] (.ListComp elt [⟨tg, iter, ifs, 0⟩] scope pos) spos) (tAsg (tComp ms wi g tt te) (gName i)) := by
  intro pins s σ H D I h
  rw [exec_Assign_Name_used _ _ _ _ hsw]
  refine wpAny_bind (wpAny_standAt (wpAny_bind ?_))
  show wpAny _ _ (do let _ ← comprehension (.ListComp elt [⟨tg, iter, ifs, 0⟩] scope pos) scope X.env _ (newList []) false (eval iter X.env) (some (assign (.Name y py) X.env))) _ _ s
  refine wpAny_bind (wpAny_mono (wpAny_comprehension_free (use := some (assign (.Name y py) X.env)) (Q := fun _ s' => SP X pins D .next s') rfl hs (clos_eq (ok.cells I.ok)) ok.kind ok.nm ?_) (fun _ s' q => wpAny_pure (wpAny_pure q)) fun _ _ e => e)
  refine comp_core (RR := fun acc C => compPost (model X.prog X.w) X.A X.xe (some (assign (.Name y py) X.env)) (fun _ s' => SP X pins D .next s') acc C) hc ok hi hg ht he I h fun Da C H' s' m hn I' ⟨g0, g1, g2, g3, g4, g5⟩ q => ?_
  show wpAny _ _ (assign (.Name y py) X.env (.ref Da)) _ _ s'
  refine wpAny_assign_Name (store_ok2 I' hN hy (.inl hl) (show RelV (.ref Da) (.ref Da) from rfl) (fun s'' I'' ⟨a, sa, ha⟩ => ?_) (.inr hl))
  have hCa : C ≠ a := by
    rcases ha with e | e
    · rw [e]; exact g1
    · exact fun z => g4 y a e z.symm
  refine ⟨m, hn.sameBut sa hCa, fun h' sb => ⟨σ.set i (some (.ref Da)), H', ?_, q⟩⟩
  exact I''.turned (t' := s''.toks) (fun b o hb e => sb.extBut b o hb e) g0 g1 g3 g4 g5
end
end L2

set_option Elab.async false
set_option linter.all false
set_option maxRecDepth 100000
namespace L2
open PySem PySem.Spec PyProof.Rows

section
variable {X : Cx} {pins : List (Addr × Obj)} {σ : St} {H : Hp} {s : Shared} {h' : Heap} {t' : Nat}
/-- several untracked records of ours have turned -/
theorem Inv.turnedN {ch : List Addr} (I : Inv X pins σ H s) (hch : ∀ b ∈ ch, FpOk X pins H b) (k : ∀ b o, b ∉ ch → s.heap.get? b = some o → h'.get? b = some o) : Inv X pins σ H { s with heap := h', toks := t' } := by
  have nit : ∀ b u, H b = some u → b ∉ ch := fun b u e z => by rw [(hch b z).1] at e; cases e
  refine I.step (g' := s.gens) (d' := s.drawn) (ch := ch) (fun b hb => ?_) (fun b o _ _ hc e _ => k b o hc e) (fun b o _ _ hc e _ => ⟨o.slots, k b o hc e⟩) (fun _ _ _ _ n => n) (fun b o hc e => ⟨o, k b o hc e⟩) (fun _ _ e => e) (fun _ _ _ e => e)
    (fun b ps e => ⟨#[], by rw [e]; simp⟩) (fun m hm => ?_) (fun b u e => ?_) I.bare
  · obtain ⟨_, f1, _, f3, f4, f5⟩ := hch b hb
    exact ⟨f3, f1, f4, f5⟩
  · obtain ⟨o, es, ep, ho, r⟩ := hm
    exact ⟨o, es, ep, k _ o (fun z => (hch _ z).2.1 rfl) ho, r⟩
  · refine (I.hok b u e).stay (fun c v hc q => k c v ?_ q) (fun _ q => q) fun _ _ q => q
    rcases hc with z | z
    · rw [z]; exact nit b u e
    · exact nit c _ z
end

theorem ne_of_objs {h : Heap} {a b : Addr} {o u : Obj} (e1 : h.get? a = some o) (e2 : h.get? b = some u) (d : o.cls ≠ u.cls) : a ≠ b := fun z => by
  subst z; rw [e1] at e2; cases e2; exact d rfl
theorem list_ne {h : Heap} {a b : Addr} {its : Array Value} {u : Obj} {T : String} (e1 : h.IsList a its) (e2 : h.get? b = some u) (c : u.cls = .type T) (d : T ≠ "list") : a ≠ b := by
  obtain ⟨o, ho, hc, _⟩ := e1
  refine ne_of_objs ho e2 ?_
  rw [hc, c]
  intro z
  injection z with z
  exact d z.symm

/-! ### zip(xs, ys) walked by (a, b) -/
def Itz (K : PySem.W.Frag) (a b : Addr) : It :=
  ⟨fun i H => ∃ xs ys x y, SqL K H a xs ∧ SqL K H b ys ∧ xs[i]? = some x ∧ ys[i]? = some y,
   fun i H v H' => ∃ T, H T = none ∧ v = .ref T ∧ ∀ xs ys x y, SqL K H a xs → SqL K H b ys → xs[i]? = some x → ys[i]? = some y → H' = upd H T (.tup [x, y]),
   fun i H => ∃ xs ys, SqL K H a xs ∧ SqL K H b ys ∧ (xs[i]? = none ∨ ys[i]? = none)⟩
structure Zap (z TI TO i1 i2 : Addr) : Prop where
  a1 : TI ≠ z
  a2 : TO ≠ z
  a3 : i1 ≠ z
  a4 : i2 ≠ z
  a5 : TI ≠ TO
  a6 : TI ≠ i1
  a7 : TI ≠ i2
  a8 : TO ≠ i1
  a9 : TO ≠ i2
  a10 : i1 ≠ i2
theorem zap_nat (n : Nat) : Zap (n + 4) (n + 2) (n + 3) n (n + 1) := by constructor <;> (show (_ : Nat) ≠ _; omega)
def tnZip (z TI TO i1 i2 a b : Addr) (i : Nat) (h : Heap) : Prop := IsZip h z TI TO .none ∧ IsPair h TI (.ref i1) (.ref i2) ∧ (∃ p q, IsPair h TO p q) ∧ h.IsListIter i1 a i ∧ h.IsListIter i2 b i
theorem zap_of {h : Heap} {z TI TO i1 i2 a b : Addr} {i : Nat} {xs ys : Array Value} (D : Zap z TI TO i1 i2) (t : tnZip z TI TO i1 i2 a b i h) (hx : h.IsList a xs) (hy : h.IsList b ys) : ZipApart z TI TO i1 i2 a b := by
  obtain ⟨hz, hI, ⟨p, q, hO⟩, ⟨o1, e1, c1, _⟩, ⟨o2, e2, c2, _⟩⟩ := t
  exact ⟨D.a1, D.a2, D.a3, D.a4, D.a5, D.a6, D.a7, D.a8, D.a9, D.a10, list_ne hx hz rfl (by decide), list_ne hx hO rfl (by decide), list_ne hx e1 c1 (by decide), list_ne hx e2 c2 (by decide), list_ne hy hz rfl (by decide), list_ne hy hO rfl (by decide), list_ne hy e1 c1 (by decide), list_ne hy e2 c2 (by decide)⟩
theorem turn_zip {P : Program} {w : World} {K : PySem.W.Frag} {elts : List Expr} {kx : Nat} {tpos : Pos} {z TI TO i1 i2 : Addr} (a b : Addr) (D : Zap z TI TO i1 i2) :
    Turn P w K (.Tuple elts kx tpos) (Itz K a b) [z, TI, TO, i1, i2] z (tnZip z TI TO i1 i2 a b) where
  mem := by simp
  obj := fun i h st c hb => by
    obtain ⟨hz, hI, ⟨p, q, hO⟩, ⟨o1, e1, c1, d1⟩, ⟨o2, e2, c2, d2⟩⟩ := st
    simp only [List.mem_cons, List.not_mem_nil, or_false] at hb
    rcases hb with rfl | rfl | rfl | rfl | rfl
    · exact ⟨_, hz, fun v x => by cases x⟩
    · exact ⟨_, hI, fun v x => by cases x⟩
    · exact ⟨_, hO, fun v x => by cases x⟩
    · exact ⟨_, e1, fun v x => by rw [d1] at x; cases x⟩
    · exact ⟨_, e2, fun v x => by rw [d2] at x; cases x⟩
  keep := fun i h h' st k => by
    obtain ⟨hz, hI, ⟨p, q, hO⟩, h1, h2⟩ := st
    exact ⟨k z (by simp) _ hz, k TI (by simp) _ hI, ⟨p, q, k TO (by simp) _ hO⟩, h1.at fun o e => k i1 (by simp) o e, h2.at fun o e => k i2 (by simp) o e⟩
  item := by
    intro X hP hw hK hc i pins s σ H E I hf st hg
    subst hP hw hK
    obtain ⟨xs, ys, x, y, hx, hy, ex, ey⟩ := hg
    obtain ⟨its, rx, px, zx⟩ := I.list hx
    obtain ⟨jts, ry, py, zy⟩ := I.list hy
    obtain ⟨u, eu, ru⟩ := rx.get ex
    obtain ⟨v, ev, rv⟩ := ry.get ey
    have Z := zap_of D st px.isList py.isList
    obtain ⟨hz, hI, ⟨p, q, hO⟩, h1, h2⟩ := id st
    refine wpAny_pyNext_zip_item Z hz hI hO h1 h2 px.isList py.isList (x := u) (y := v) (by simpa using eu) (by simpa using ev) fun h' z1 o1 l1 l2 t1 sz k1 => ?_
    refine ⟨_, rfl, wpAny_letOwnedTupleGo_zip (s := { s with heap := h' }) z1 fun h'' z2 sb => ?_⟩
    have nT : H s.heap.objs.size = none := I.hok.fresh (Nat.le_refl _)
    have IT : Inv X pins σ (upd H s.heap.objs.size (.tup [x, y])) { s with heap := s.heap.push { cls := .type "tuple", data := .seq #[u, v] }, toks := s.toks } :=
      I.laid (fun b o e => Heap.get?_push_of_some _ e) (Nat.le_refl _) (show ObjOk X.prog X.w _ _ _ (.tup [x, y]) from ⟨by show 2 ≤ sizeLine; decide, [u, v], .cons ru (.cons rv .nil), IsTup.new _ _⟩)
    have nz : z ≠ s.heap.objs.size := Nat.ne_of_lt (Heap.lt_size hz)
    have fT : ∀ c ∈ [z, TI, TO, i1, i2], FpOk X pins (upd H s.heap.objs.size (.tup [x, y])) c := fun c hcm => by
      obtain ⟨g0, gr⟩ := hf c hcm
      refine ⟨?_, gr⟩
      obtain ⟨o, ho, _⟩ : ∃ o, s.heap.get? c = some o ∧ True := by
        simp only [List.mem_cons, List.not_mem_nil, or_false] at hcm
        rcases hcm with rfl | rfl | rfl | rfl | rfl
        · exact ⟨_, hz, trivial⟩
        · exact ⟨_, hI, trivial⟩
        · exact ⟨_, hO, trivial⟩
        · obtain ⟨o, e, _⟩ := h1; exact ⟨o, e, trivial⟩
        · obtain ⟨o, e, _⟩ := h2; exact ⟨o, e, trivial⟩
      rw [upd_ne (Nat.ne_of_lt (Heap.lt_size ho))]
      exact g0
    have up : ∀ c o, c ∉ [z, TI, TO, i1, i2] → (s.heap.push { cls := .type "tuple", data := .seq #[u, v] }).get? c = some o → h''.get? c = some o := fun c o hn e => by
      simp only [List.mem_cons, List.not_mem_nil, or_false, not_or] at hn
      refine sb.extBut c o hn.1 ?_
      by_cases hcs : c = s.heap.objs.size
      · subst hcs
        rw [Heap.get?_push_size _ rfl] at e
        cases e
        exact t1
      · refine k1 c o hn.1 hn.2.2.1 hn.2.2.2.1 hn.2.2.2.2 ?_
        rw [Heap.get?_push_ne _ _ _ hcs] at e
        exact e
    refine ⟨.ref s.heap.objs.size, _, IT.turnedN (h' := h'') (t' := s.toks) fT up, rfl, ⟨_, nT, rfl, fun xs' ys' x' y' q1 q2 q3 q4 => ?_⟩, ?_, fun c hcm => (fT c hcm).1⟩
    · rw [I.list_inj q1 hx, ex] at q3
      rw [I.list_inj q2 hy, ey] at q4
      cases q3; cases q4; rfl
    · refine ⟨z2, sb.extBut _ _ D.a1 (k1 _ _ D.a1 D.a5 D.a6 D.a7 hI), ⟨_, _, sb.extBut _ _ D.a2 o1⟩, l1.extBut sb.extBut D.a3, l2.extBut sb.extBut D.a4⟩
  done := by
    intro X hP hw hK hc i pins s σ H E I hf st hg
    subst hP hw hK
    obtain ⟨xs, ys, hx, hy, en⟩ := hg
    obtain ⟨its, rx, px, zx⟩ := I.list hx
    obtain ⟨jts, ry, py, zy⟩ := I.list hy
    have Z := zap_of D st px.isList py.isList
    obtain ⟨hz, hI, ⟨p, q, hO⟩, h1, h2⟩ := id st
    have en' : its.toArray[i]? = none ∨ jts.toArray[i]? = none := by
      rcases en with e | e
      · exact .inl (by simpa using rx.none_of e)
      · exact .inr (by simpa using ry.none_of e)
    exact wpAny_pyNext_zip_end (I.ok.hd hc) Z hz hI hO h1 h2 px.isList py.isList en' fun h' k1 => ⟨rfl, I.turnedN (t' := s.toks) hf fun c o hn e => by
      simp only [List.mem_cons, List.not_mem_nil, or_false, not_or] at hn
      exact k1 c o hn.1 hn.2.2.1 hn.2.2.2.1 hn.2.2.2.2 e⟩
  self := fun _ _ _ _ _ st h => wpAny_pyIter_zip st.1 h

def iZip (K : PySem.W.Frag) (ta : TA) : TI := fun σ H R => ta σ H fun vs H1 => ∃ a b, vs = [.ref a, .ref b] ∧ (∃ xs, SqL K H1 a xs) ∧ (∃ ys, SqL K H1 b ys) ∧ R (Itz K a b) H1
theorem boot_zip : bootBuiltins "zip" = some (.type "zip") := by decide +kernel
theorem boot_enumerate : bootBuiltins "enumerate" = some (.type "enumerate") := by decide +kernel
theorem boot_reversed : bootBuiltins "reversed" = some (.type "reversed") := by decide +kernel

section
variable {X : Cx}
theorem pi_zip {elts : List Expr} {kx : Nat} {tpos : Pos} {a b : Expr} {ta : TA} {p pos : Pos} (hg : Gl X "zip") (hm : X.mg "zip" = none) (ha : PA X [a, b] ta) (hs : starEach [a, b] X.env = [(false, eval a X.env), (false, eval b X.env)] := by rfl) (hs2 : starEach [b] X.env = [(false, eval b X.env)] := by rfl) :
    PI X (.Tuple elts kx tpos) (.Call (.Name "zip" p) [a, b] [] pos) (iZip X.K ta) := by
  intro pins s σ H R I h
  refine Call_ (ld_blt I hg hm boot_zip (PyProof.Rows.callWith_type1 (thn (ha pos pins s σ H _ I h) fun us s1 ⟨vs, H1, I1, r1, q1⟩ => ?_) (by rw [hs, hs2]) (by rw [hs2]; rfl)))
  obtain ⟨l1, l2, e, ⟨xs, hx⟩, ⟨ys, hy⟩, q⟩ := q1
  subst e
  obtain ⟨u, v, e, ru, rv⟩ := r1.two
  subst e
  cases ru; cases rv
  obtain ⟨its, rx, px, zx⟩ := I1.list hx
  obtain ⟨jts, ry, py, zy⟩ := I1.list hy
  refine call_zip_2 px.isList py.isList fun h' z1 p1 p2 i1 i2 sz k => ?_
  refine wpAny_pyIter_zip (s := { s1 with heap := h' }) z1 ?_
  have I2 : Inv X pins σ H1 { s1 with heap := h', toks := s1.toks } := I1.kept k
  have D := zap_nat s1.heap.objs.size
  refine ⟨_, _, _, _, H1, rfl, I2, turn_zip l1 l2 D, ⟨z1, p1, ⟨_, _, p2⟩, i1, i2⟩, fun c hc => ?_, q⟩
  have le : s1.heap.objs.size ≤ c := by
    simp only [List.mem_cons, List.not_mem_nil, or_false] at hc
    first
      | (rcases hc with rfl | rfl | rfl | rfl | rfl <;> first | exact Nat.le_refl _ | exact Nat.le_add_right _ _)
      | (rcases hc with rfl | rfl <;> first | exact Nat.le_refl _ | exact Nat.le_add_right _ _)
  exact I1.fpOk le (I1.hok.fresh le)
end

/-! ### enumerate(xs) walked by (i, x) -/
def Itn (K : PySem.W.Frag) (a : Addr) : It :=
  ⟨fun i H => ∃ xs x, SqL K H a xs ∧ xs[i]? = some x,
   fun i H v H' => ∃ T, H T = none ∧ v = .ref T ∧ ∀ xs x, SqL K H a xs → xs[i]? = some x → H' = upd H T (.tup [.int i, x]),
   fun i H => ∃ xs, SqL K H a xs ∧ xs.length ≤ i⟩
def tnEnum (e it a : Addr) (i : Nat) (h : Heap) : Prop := (∃ old, IsEnum h e it ((i : Nat) : Int) old) ∧ h.IsListIter it a i
theorem turn_enum {P : Program} {w : World} {K : PySem.W.Frag} {elts : List Expr} {kx : Nat} {tpos : Pos} {e it : Addr} (a : Addr) (D : e ≠ it) :
    Turn P w K (.Tuple elts kx tpos) (Itn K a) [e, it] e (tnEnum e it a) where
  mem := by simp
  obj := fun i h st c hb => by
    obtain ⟨⟨old, he⟩, ⟨o1, e1, c1, d1⟩⟩ := st
    simp only [List.mem_cons, List.not_mem_nil, or_false] at hb
    rcases hb with rfl | rfl
    · exact ⟨_, he, fun v x => by cases x⟩
    · exact ⟨_, e1, fun v x => by rw [d1] at x; cases x⟩
  keep := fun i h h' st k => by
    obtain ⟨⟨old, he⟩, h1⟩ := st
    exact ⟨⟨old, k e (by simp) _ he⟩, h1.at fun o e => k it (by simp) o e⟩
  item := by
    intro X hP hw hK hc i pins s σ H E I hf st hg
    subst hP hw hK
    obtain ⟨xs, x, hx, ex⟩ := hg
    obtain ⟨its, rx, px, zx⟩ := I.list hx
    obtain ⟨u, eu, ru⟩ := rx.get ex
    obtain ⟨⟨old, he⟩, h1⟩ := id st
    refine wpAny_pyNext_enum_item he h1 px.isList (x := u) (by simpa using eu) D fun h' z1 l1 t1 sz k1 => ?_
    refine ⟨_, rfl, wpAny_letOwnedTupleGo_enum (s := { s with heap := h', toks := s.toks + 1 }) z1 fun h'' z2 sb => ?_⟩
    have nT : H s.heap.objs.size = none := I.hok.fresh (Nat.le_refl _)
    have IT : Inv X pins σ (upd H s.heap.objs.size (.tup [.int i, x])) { s with heap := s.heap.push { cls := .type "tuple", data := .seq #[.int i s.toks, u] }, toks := s.toks } :=
      I.laid (fun b o e => Heap.get?_push_of_some _ e) (Nat.le_refl _) (show ObjOk X.prog X.w _ _ _ (.tup [.int i, x]) from ⟨by show 2 ≤ sizeLine; decide, [.int i s.toks, u], .cons ⟨_, rfl⟩ (.cons ru .nil), IsTup.new _ _⟩)
    have fT : ∀ c ∈ [e, it], FpOk X pins (upd H s.heap.objs.size (.tup [.int i, x])) c := fun c hcm => by
      obtain ⟨g0, gr⟩ := hf c hcm
      refine ⟨?_, gr⟩
      obtain ⟨o, ho, _⟩ : ∃ o, s.heap.get? c = some o ∧ True := by
        simp only [List.mem_cons, List.not_mem_nil, or_false] at hcm
        rcases hcm with rfl | rfl
        · exact ⟨_, he, trivial⟩
        · obtain ⟨o, e, _⟩ := h1; exact ⟨o, e, trivial⟩
      rw [upd_ne (Nat.ne_of_lt (Heap.lt_size ho))]
      exact g0
    have up : ∀ c o, c ∉ [e, it] → (s.heap.push { cls := .type "tuple", data := .seq #[.int i s.toks, u] }).get? c = some o → h''.get? c = some o := fun c o hn e2 => by
      simp only [List.mem_cons, List.not_mem_nil, or_false, not_or] at hn
      refine sb.extBut c o hn.1 ?_
      by_cases hcs : c = s.heap.objs.size
      · subst hcs
        rw [Heap.get?_push_size _ rfl] at e2
        cases e2
        exact t1
      · refine k1 c o hn.1 hn.2 ?_
        rw [Heap.get?_push_ne _ _ _ hcs] at e2
        exact e2
    refine ⟨.ref s.heap.objs.size, _, IT.turnedN (h' := h'') (t' := s.toks + 1) fT up, rfl, ⟨_, nT, rfl, fun xs' x' q1 q3 => ?_⟩, ?_, fun c hcm => (fT c hcm).1⟩
    · rw [I.list_inj q1 hx, ex] at q3
      cases q3; rfl
    · refine ⟨⟨_, by rw [show (((i + 1 : Nat) : Nat) : Int) = (i : Int) + 1 by omega]; exact z2⟩, l1.extBut sb.extBut (Ne.symm D)⟩
  done := by
    intro X hP hw hK hc i pins s σ H E I hf st hg
    subst hP hw hK
    obtain ⟨xs, hx, en⟩ := hg
    obtain ⟨its, rx, px, zx⟩ := I.list hx
    obtain ⟨⟨old, he⟩, h1⟩ := id st
    have hl := rx.length
    exact wpAny_pyNext_enum_end (I.ok.hd hc) he h1 px.isList (by simp; omega) fun h' k1 => ⟨rfl, I.turnedN (t' := s.toks) hf fun c o hn e2 => by
      simp only [List.mem_cons, List.not_mem_nil, or_false, not_or] at hn
      exact k1 c o hn.2 e2⟩
  self := fun _ _ _ _ _ st h => by
    obtain ⟨⟨old, he⟩, _⟩ := st
    exact wpAny_pyIter_enum he h
def iEnum (K : PySem.W.Frag) (ta : TA) : TI := fun σ H R => ta σ H fun vs H1 => ∃ a xs, vs = [.ref a] ∧ H1 a = some (.lst xs) ∧ R (Itn K a) H1
section
variable {X : Cx}
theorem pi_enum {elts : List Expr} {kx : Nat} {tpos : Pos} {a : Expr} {ta : TA} {p pos : Pos} (hg : Gl X "enumerate") (hm : X.mg "enumerate" = none) (ha : PA X [a] ta) (hs : starEach [a] X.env = [(false, eval a X.env)] := by rfl) :
    PI X (.Tuple elts kx tpos) (.Call (.Name "enumerate" p) [a] [] pos) (iEnum X.K ta) := by
  intro pins s σ H R I h
  refine Call_ (ld_blt I hg hm boot_enumerate (PyProof.Rows.callWith_type1 (thn (ha pos pins s σ H _ I h) fun us s1 ⟨vs, H1, I1, r1, q1⟩ => ?_) hs rfl))
  obtain ⟨l1, xs, e, hx, q⟩ := q1
  subst e
  obtain ⟨u, e, ru⟩ := vals1 r1
  subst e
  cases ru
  obtain ⟨z, its, n, r, hl, e⟩ := I1.lstM hx
  refine call_enumerate_1 e fun h' z1 i1 sz k => ?_
  refine wpAny_pyIter_enum (s := { s1 with heap := h' }) z1 ?_
  have I2 : Inv X pins σ H1 { s1 with heap := h', toks := s1.toks } := I1.kept k
  refine ⟨_, _, _, _, H1, rfl, I2, turn_enum l1 (e := s1.heap.objs.size + 1) (it := s1.heap.objs.size) (Nat.succ_ne_self _), ⟨⟨_, z1⟩, i1⟩, fun c hc => ?_, q⟩
  have le : s1.heap.objs.size ≤ c := by
    simp only [List.mem_cons, List.not_mem_nil, or_false] at hc
    first
      | (rcases hc with rfl | rfl | rfl | rfl | rfl <;> first | exact Nat.le_refl _ | exact Nat.le_add_right _ _)
      | (rcases hc with rfl | rfl <;> first | exact Nat.le_refl _ | exact Nat.le_add_right _ _)
  exact I1.fpOk le (I1.hok.fresh le)
end

/-! ### reversed(xs) of a list that stays as it is -/
def Itv (K : PySem.W.Frag) (a : Addr) (n : Nat) : It :=
  ⟨fun i H => i < n ∧ ∃ xs, SqL K H a xs ∧ xs.length = n,
   fun i H x H' => H' = H ∧ ∀ xs, SqL K H a xs → xs[n - 1 - i]? = some x,
   fun i _ => n ≤ i⟩
theorem turn_rev {P : Program} {w : World} {K : PySem.W.Frag} {tg : Expr} (a it : Addr) (n : Nat) : Turn P w K tg (Itv K a n) [it] it (fun i h => i ≤ n ∧ h.IsRevIter it a ((n : Int) - 1 - (i : Nat))) where
  mem := by simp
  obj := fun i h st b hb => by
    have e : b = it := by simpa using hb
    subst e
    obtain ⟨_, o, e, c, d⟩ := st
    exact ⟨o, e, fun v z => by rw [d] at z; cases z⟩
  keep := fun i h h' st k => ⟨st.1, st.2.at fun o e => k it (by simp) o e⟩
  item := by
    intro X hP hw hK hc i pins s σ H E I hf st hg
    subst hP hw hK
    obtain ⟨lt, xs, hq, hn⟩ := hg
    obtain ⟨its, rv, p, hz⟩ := I.list hq
    have hlt : n - 1 - i < xs.length := by omega
    obtain ⟨u, hu, ru⟩ := rv.get (x := xs[n - 1 - i]) (i := n - 1 - i) (by simp [hlt])
    obtain ⟨f0, f1, f2, f3, f4, f5⟩ := hf it (by simp)
    have st2 : s.heap.IsRevIter it a (((n - 1 - i : Nat) : Nat) : Int) := by
      rw [show (((n - 1 - i : Nat) : Nat) : Int) = (n : Int) - 1 - (i : Nat) by omega]; exact st.2
    refine wpAny_pyNext_rev_item st2 p.isList (x := u) (by simpa using hu) fun h' st' sb => ?_
    have I1 : Inv X pins σ H { s with heap := h' } := I.turned (t' := s.toks) (fun b o hb e => (sb.2 b hb).trans e) f0 f1 f3 f4 f5
    obtain ⟨o, e, c, d⟩ := id st'
    refine ⟨u, rfl, go_of (s := { s with heap := h' }) e c d (by decide) ⟨_, H, I1, ru, ⟨rfl, fun ys hy => by rw [I.list_inj hy hq]; simp [hlt]⟩, ⟨lt, ?_⟩, fun b hb => (hf b hb).1⟩⟩
    rw [show (n : Int) - 1 - ((i + 1 : Nat) : Nat) = (((n - 1 - i : Nat) : Nat) : Int) - 1 by omega]
    exact st'
  done := by
    intro X hP hw hK hc i pins s σ H E I hf st hg
    subst hP hw hK
    have hg : n ≤ i := hg
    obtain ⟨f0, f1, f2, f3, f4, f5⟩ := hf it (by simp)
    have st2 : s.heap.IsRevIter it a (-1) := by
      rw [show (-1 : Int) = (n : Int) - 1 - (i : Nat) by omega]; exact st.2
    exact wpAny_pyNext_rev_end (I.ok.hd hc) st2 fun h' eb => ⟨rfl, I.turned (t' := s.toks) (fun b o hb e => eb b o hb e) f0 f1 f3 f4 f5⟩
  self := fun _ _ _ _ _ st h => wpAny_pyIter_revIter st.2 h
def iRev (K : PySem.W.Frag) (ta : TA) : TI := fun σ H R => ta σ H fun vs H1 => ∃ a xs, vs = [.ref a] ∧ SqL K H1 a xs ∧ R (Itv K a xs.length) H1
section
variable {X : Cx}
theorem pi_rev {tg : Expr} {a : Expr} {ta : TA} {p pos : Pos} (hg : Gl X "reversed") (hm : X.mg "reversed" = none) (ha : PA X [a] ta) (hs : starEach [a] X.env = [(false, eval a X.env)] := by rfl) :
    PI X tg (.Call (.Name "reversed" p) [a] [] pos) (iRev X.K ta) := by
  intro pins s σ H R I h
  refine Call_ (ld_blt I hg hm boot_reversed (PyProof.Rows.callWith_type1 (thn (ha pos pins s σ H _ I h) fun us s1 ⟨vs, H1, I1, r1, q1⟩ => ?_) hs rfl))
  obtain ⟨l1, xs, e, hx, q⟩ := q1
  subst e
  obtain ⟨u, e, ru⟩ := vals1 r1
  subst e
  cases ru
  obtain ⟨its, rx, px, zx⟩ := I1.list hx
  have hl := rx.length
  refine call_reversed_list px.isList ?_
  have st : (s1.heap.push (revObj l1 ((its.toArray.size : Int) - 1))).IsRevIter s1.heap.objs.size l1 ((xs.length : Int) - 1 - (0 : Nat)) :=
    ⟨_, Heap.get?_push_size _ rfl, rfl, by rw [show (xs.length : Int) - 1 - (0 : Nat) = (its.toArray.size : Int) - 1 by rw [List.size_toArray]; omega]; rfl⟩
  have I2 : Inv X pins σ H1 { s1 with heap := s1.heap.push (revObj l1 ((its.toArray.size : Int) - 1)), toks := s1.toks } := I1.kept fun b o e => Heap.get?_push_of_some _ e
  refine wpAny_pyIter_revIter (s := { s1 with heap := s1.heap.push (revObj l1 ((its.toArray.size : Int) - 1)) }) st ?_
  refine ⟨_, [s1.heap.objs.size], _, _, H1, rfl, I2, turn_rev l1 _ xs.length, ⟨Nat.zero_le _, st⟩, fun c hc => ?_, q⟩
  have e : c = s1.heap.objs.size := by simpa using hc
  subst e
  exact I1.fpOk (Nat.le_refl _) (I1.hok.fresh (Nat.le_refl _))

/-! ### all([..]), any([..]) of bools -/
theorem bools_get {bs : List Bool} {its : List Value} (r : Vals (bs.map V.bl) its) {i : Nat} {v : Value} (e : its[i]? = some v) : ∃ b, bs[i]? = some b ∧ v = .bool b := by
  have hl := r.length
  rw [List.length_map] at hl
  have hi : i < bs.length := by
    have := (List.getElem?_eq_some_iff.mp e).1
    omega
  obtain ⟨u, hu, ru⟩ := r.get (i := i) (x := V.bl bs[i]) (by simp [hi])
  rw [e] at hu; cases hu
  exact ⟨bs[i], by simp [hi], ru⟩
theorem all_range {bs : List Bool} {n : Nat} (h : n = bs.length) : (List.range n).all (fun i => bs[i]?.getD false) = bs.all id := by
  subst h
  rw [Bool.eq_iff_iff]
  simp only [List.all_eq_true, List.mem_range, id]
  constructor
  · intro q x hx
    obtain ⟨i, hi, rfl⟩ := List.getElem_of_mem hx
    have := q i hi
    simpa [hi] using this
  · intro q i hi
    simpa [hi] using q bs[i] (List.getElem_mem hi)
theorem any_range {bs : List Bool} {n : Nat} (h : n = bs.length) : (List.range n).any (fun i => bs[i]?.getD false) = bs.any id := by
  subst h
  rw [Bool.eq_iff_iff]
  simp only [List.any_eq_true, List.mem_range, id]
  constructor
  · rintro ⟨i, hi, q⟩
    exact ⟨bs[i], List.getElem_mem hi, by simpa [hi] using q⟩
  · rintro ⟨x, hx, q⟩
    obtain ⟨i, hi, rfl⟩ := List.getElem_of_mem hx
    exact ⟨i, hi, by simpa [hi] using q⟩
theorem call_all (hc : X.calm = true) : CallR X (.builtin "all") (fun xs H Q => ∃ (p : Addr) (bs : List Bool), xs = [.ref p] ∧ SqL X.K H p (bs.map V.bl) ∧ Q (.bl (bs.all id)) H) := by
  intro pins s σ H xs us Q I r h
  obtain ⟨p, bs, rfl, hq, q⟩ := h
  obtain ⟨u, rfl, rx⟩ := vals1 r
  cases rx
  obtain ⟨its, rv, pl, hz⟩ := I.list hq
  have hl := rv.length
  rw [List.length_map] at hl
  refine call_all_walk (wpAny_pyIter_list pl.isList ?_)
  have hne : p ≠ s.heap.objs.size := by
    obtain ⟨o, ho, _⟩ := pl.isList
    exact Nat.ne_of_lt (Heap.lt_size ho)
  refine ⟨s.heap.objs.size, _, _, _, _, _, fun i => bs[i]?.getD false, rfl, Walks.list (show X.A.in1.handled = none from I.ok.hd hc) s.heap.objs.size p hne its.toArray, ⟨⟨_, Heap.get?_push_size _ rfl, rfl, rfl⟩, Heap.IsList.push pl.isList _⟩, fun i v s' Q' E' hP hQ => ?_, fun h' tk hk => ?_⟩
  · obtain ⟨b, hb, rfl⟩ := bools_get rv (i := i) (v := v) (by simpa using hP)
    refine wpAny_truthy_bool ?_
    simpa [hb] using hQ
  · rw [all_range (by rw [List.size_toArray]; exact hl.symm)]
    refine ⟨.bl _, H, I.kept fun b o e => hk b o ?_ (Heap.get?_push_of_some _ e), rfl, q⟩
    simp only [List.mem_cons, List.not_mem_nil, or_false]
    exact Nat.ne_of_lt (Heap.lt_size e)
theorem call_any (hc : X.calm = true) : CallR X (.builtin "any") (fun xs H Q => ∃ (p : Addr) (bs : List Bool), xs = [.ref p] ∧ SqL X.K H p (bs.map V.bl) ∧ Q (.bl (bs.any id)) H) := by
  intro pins s σ H xs us Q I r h
  obtain ⟨p, bs, rfl, hq, q⟩ := h
  obtain ⟨u, rfl, rx⟩ := vals1 r
  cases rx
  obtain ⟨its, rv, pl, hz⟩ := I.list hq
  have hl := rv.length
  rw [List.length_map] at hl
  refine call_any_walk (wpAny_pyIter_list pl.isList ?_)
  have hne : p ≠ s.heap.objs.size := by
    obtain ⟨o, ho, _⟩ := pl.isList
    exact Nat.ne_of_lt (Heap.lt_size ho)
  refine ⟨s.heap.objs.size, _, _, _, _, _, fun i => bs[i]?.getD false, rfl, Walks.list (show X.A.in1.handled = none from I.ok.hd hc) s.heap.objs.size p hne its.toArray, ⟨⟨_, Heap.get?_push_size _ rfl, rfl, rfl⟩, Heap.IsList.push pl.isList _⟩, fun i v s' Q' E' hP hQ => ?_, fun h' tk hk => ?_⟩
  · obtain ⟨b, hb, rfl⟩ := bools_get rv (i := i) (v := v) (by simpa using hP)
    refine wpAny_truthy_bool ?_
    simpa [hb] using hQ
  · rw [any_range (by rw [List.size_toArray]; exact hl.symm)]
    refine ⟨.bl _, H, I.kept fun b o e => hk b o ?_ (Heap.get?_push_of_some _ e), rfl, q⟩
    simp only [List.mem_cons, List.not_mem_nil, or_false]
    exact Nat.ne_of_lt (Heap.lt_size e)
end
end L2

set_option Elab.async false
set_option linter.all false
set_option maxRecDepth 100000
namespace L2
open PySem PySem.Spec PyProof.Rows PySem.SeqAt

/-! ### data as trees -/
inductive D where
  | non | bl (b : Bool) | int (i : Int) | str (x : Str) | lst (xs : List D) | tup (xs : List D)
mutual
def dep : D → Nat
  | .lst xs => deps xs + 1
  | .tup xs => deps xs + 1
  | _ => 0
def deps : List D → Nat
  | [] => 0
  | d :: ds => max (dep d) (deps ds)
end
mutual
def pyEq : D → D → Bool
  | .non, .non => true
  | .bl a, .bl b => a == b
  | .int a, .int b => a == b
  | .bl a, .int b => (if a then 1 else 0) == b
  | .int a, .bl b => a == (if b then 1 else 0)
  | .str a, .str b => a == b
  | .lst xs, .lst ys => pyEqs xs ys
  | .tup xs, .tup ys => pyEqs xs ys
  | _, _ => false
def pyEqs : List D → List D → Bool
  | [], [] => true
  | x :: xs, y :: ys => pyEq x y && pyEqs xs ys
  | _, _ => false
end
/-! v shows d in the heap H (read alone) -/
mutual
def Rep (K : PySem.W.Frag) (H : Hp) : D → V → Prop
  | .non, v => v = .non
  | .bl b, v => v = .bl b
  | .int i, v => v = .int i
  | .str x, v => v = .str x
  | .lst ds, v => ∃ a xs, v = .ref a ∧ SqL K H a xs ∧ Reps K H ds xs
  | .tup ds, v => ∃ a xs, v = .ref a ∧ SqT K H a xs ∧ Reps K H ds xs
def Reps (K : PySem.W.Frag) (H : Hp) : List D → List V → Prop
  | [], vs => vs = []
  | d :: ds, vs => ∃ v r, vs = v :: r ∧ Rep K H d v ∧ Reps K H ds r
end
theorem deps_mem : ∀ {ds : List D} {d : D}, d ∈ ds → dep d ≤ deps ds
  | d :: ds, e, h => by
    rcases List.mem_cons.mp h with h | h
    · subst h; unfold deps; exact Nat.le_max_left _ _
    · have := deps_mem h
      unfold deps
      exact Nat.le_trans this (Nat.le_max_right _ _)
theorem Reps.length {K : PySem.W.Frag} {H : Hp} : ∀ {ds : List D} {vs : List V}, Reps K H ds vs → ds.length = vs.length
  | [], vs, h => by unfold Reps at h; subst h; rfl
  | d :: ds, vs, h => by
    unfold Reps at h
    obtain ⟨v, r, rfl, _, h⟩ := h
    simp [Reps.length h]
theorem Reps.get {K : PySem.W.Frag} {H : Hp} : ∀ {ds : List D} {vs : List V} {i : Nat} {d : D}, Reps K H ds vs → ds[i]? = some d → ∃ v, vs[i]? = some v ∧ Rep K H d v
  | [], vs, i, d, h, e => by simp at e
  | c :: ds, vs, i, d, h, e => by
    unfold Reps at h
    obtain ⟨v, r, rfl, h1, h⟩ := h
    cases i with
    | zero => simp at e; subst e; exact ⟨v, rfl, h1⟩
    | succ i =>
      obtain ⟨w, e1, e2⟩ := Reps.get h (show ds[i]? = some d by simpa using e)
      exact ⟨w, by simpa using e1, e2⟩
theorem Reps.get' {K : PySem.W.Frag} {H : Hp} {ds : List D} {vs : List V} {i : Nat} {v : V} (h : Reps K H ds vs) (e : vs[i]? = some v) : ∃ d, ds[i]? = some d ∧ Rep K H d v := by
  have hl := h.length
  have hi := (List.getElem?_eq_some_iff.mp e).1
  obtain ⟨w, e1, e2⟩ := h.get (i := i) (d := ds[i]) (by simp)
  rw [e] at e1; cases e1
  exact ⟨ds[i], by simp, e2⟩
theorem Reps.of {K : PySem.W.Frag} {H : Hp} : ∀ {ds : List D} {vs : List V}, ds.length = vs.length → (∀ (i : Nat) d v, ds[i]? = some d → vs[i]? = some v → Rep K H d v) → Reps K H ds vs
  | [], [], _, _ => by unfold Reps; rfl
  | d :: ds, v :: vs, hl, h => by
    unfold Reps
    exact ⟨v, vs, rfl, h 0 d v rfl rfl, Reps.of (by simpa using hl) fun i e w e1 e2 => h (i + 1) e w (by simpa using e1) (by simpa using e2)⟩
theorem Reps.ints {K : PySem.W.Frag} {H : Hp} : ∀ {ns : List Int} {vs : List V}, Reps K H (ns.map D.int) vs ↔ vs = ns.map V.int
  | [], vs => by unfold List.map Reps; rfl
  | n :: ns, vs => by
    rw [List.map_cons]
    unfold Reps
    constructor
    · rintro ⟨v, r, rfl, h1, h⟩
      unfold Rep at h1
      subst h1
      rw [Reps.ints.mp h]; rfl
    · rintro rfl
      exact ⟨_, _, rfl, by unfold Rep; rfl, Reps.ints.mpr rfl⟩

/-! kept where the tracked things are kept -/
theorem Same.tup {K : PySem.W.Frag} {H H' : Hp} {a : Addr} {xs : List V} (e : Same H H') (h : SqT K H a xs) : SqT K H' a xs := by
  rcases h with (h | ⟨o, h⟩) | h
  · exact .inl (.inl (e _ _ h))
  · exact .inl (.inr ⟨o, e _ _ h⟩)
  · exact .inr h
mutual
theorem Rep.same {K : PySem.W.Frag} {H H' : Hp} (e : Same H H') : ∀ (d : D) {v : V}, Rep K H d v → Rep K H' d v
  | .non, _, h => by unfold Rep at *; exact h
  | .bl _, _, h => by unfold Rep at *; exact h
  | .int _, _, h => by unfold Rep at *; exact h
  | .str _, _, h => by unfold Rep at *; exact h
  | .lst ds, _, h => by
    unfold Rep at *
    obtain ⟨a, xs, h1, h2, h3⟩ := h
    exact ⟨a, xs, h1, e.seq h2, Reps.same e ds h3⟩
  | .tup ds, _, h => by
    unfold Rep at *
    obtain ⟨a, xs, h1, h2, h3⟩ := h
    exact ⟨a, xs, h1, e.tup h2, Reps.same e ds h3⟩
theorem Reps.same {K : PySem.W.Frag} {H H' : Hp} (e : Same H H') : ∀ (ds : List D) {vs : List V}, Reps K H ds vs → Reps K H' ds vs
  | [], _, h => by unfold Reps at *; exact h
  | d :: ds, _, h => by
    unfold Reps at *
    obtain ⟨v, r, h1, h2, h3⟩ := h
    exact ⟨v, r, h1, Rep.same e d h2, Reps.same e ds h3⟩
end

/-! ### == of trees -/
mutual
theorem pyEq_refl : ∀ d : D, pyEq d d = true
  | .non => by unfold pyEq; rfl
  | .bl _ => by unfold pyEq; simp
  | .int _ => by unfold pyEq; simp
  | .str _ => by unfold pyEq; simp
  | .lst ds => by unfold pyEq; exact pyEqs_refl ds
  | .tup ds => by unfold pyEq; exact pyEqs_refl ds
theorem pyEqs_refl : ∀ ds : List D, pyEqs ds ds = true
  | [] => by unfold pyEqs; rfl
  | d :: ds => by unfold pyEqs; rw [pyEq_refl d, pyEqs_refl ds]; rfl
end
theorem pyEqs_len : ∀ {xs ys : List D}, pyEqs xs ys = true → xs.length = ys.length
  | [], [], _ => rfl
  | [], _ :: _, h => by unfold pyEqs at h; cases h
  | _ :: _, [], h => by unfold pyEqs at h; cases h
  | x :: xs, y :: ys, h => by
    unfold pyEqs at h
    rw [Bool.and_eq_true] at h
    simp [pyEqs_len h.2]
theorem pyEqs_all : ∀ {xs ys : List D}, xs.length = ys.length → (List.range xs.length).all (fun j => pyEq (xs.getD j .non) (ys.getD j .non)) = pyEqs xs ys
  | [], [], _ => by unfold pyEqs; rfl
  | x :: xs, y :: ys, h => by
    have ih := pyEqs_all (xs := xs) (ys := ys) (by simpa using h)
    unfold pyEqs
    rw [List.length_cons, List.range_succ_eq_map, List.all_cons, List.all_map, ← ih]
    rfl
theorem pyEqs_ints : ∀ {ms ns : List Int}, pyEqs (ms.map D.int) (ns.map D.int) = decide (ms = ns)
  | [], [] => by unfold List.map pyEqs; rfl
  | [], _ :: _ => by rw [List.map_cons]; unfold List.map pyEqs; simp
  | _ :: _, [] => by rw [List.map_cons]; unfold List.map pyEqs; simp
  | m :: ms, n :: ns => by
    rw [List.map_cons, List.map_cons]
    unfold pyEqs pyEq
    rw [pyEqs_ints, Bool.eq_iff_iff]
    simp
mutual
theorem Rep.inj {X : Cx} {pins : List (Addr × Obj)} {σ : St} {H : Hp} {s : Shared} (I : Inv X pins σ H s) : ∀ (d e : D) {v : V}, Rep X.K H d v → Rep X.K H e v → d = e
  | .non, e, v, h, q => by unfold Rep at h; subst h; cases e <;> unfold Rep at q <;> first | rfl | (cases q; done) | (obtain ⟨_, _, q, _⟩ := q; cases q)
  | .bl _, e, v, h, q => by unfold Rep at h; subst h; cases e <;> unfold Rep at q <;> first | (cases q; rfl) | (cases q; done) | (obtain ⟨_, _, q, _⟩ := q; cases q)
  | .int _, e, v, h, q => by unfold Rep at h; subst h; cases e <;> unfold Rep at q <;> first | (cases q; rfl) | (cases q; done) | (obtain ⟨_, _, q, _⟩ := q; cases q)
  | .str _, e, v, h, q => by unfold Rep at h; subst h; cases e <;> unfold Rep at q <;> first | (cases q; rfl) | (cases q; done) | (obtain ⟨_, _, q, _⟩ := q; cases q)
  | .lst ds, e, v, h, q => by
    unfold Rep at h
    obtain ⟨a, xs, rfl, h1, h2⟩ := h
    cases e with
    | lst es =>
      unfold Rep at q
      obtain ⟨b, ys, e1, q1, q2⟩ := q
      cases e1
      cases I.list_inj h1 q1
      rw [Reps.inj I ds es h2 q2]
    | tup es =>
      unfold Rep at q
      obtain ⟨b, ys, e1, q1, q2⟩ := q
      cases e1
      obtain ⟨_, _, p1, _⟩ := I.list h1
      obtain ⟨_, _, p2, _⟩ := I.tuple q1
      exact absurd rfl (ne_of_list_tuple (s := s) p1.isList p2)
    | _ => unfold Rep at q; cases q
  | .tup ds, e, v, h, q => by
    unfold Rep at h
    obtain ⟨a, xs, rfl, h1, h2⟩ := h
    cases e with
    | tup es =>
      unfold Rep at q
      obtain ⟨b, ys, e1, q1, q2⟩ := q
      cases e1
      cases I.tuple_inj h1 q1
      rw [Reps.inj I ds es h2 q2]
    | lst es =>
      unfold Rep at q
      obtain ⟨b, ys, e1, q1, q2⟩ := q
      cases e1
      obtain ⟨_, _, p1, _⟩ := I.list q1
      obtain ⟨_, _, p2, _⟩ := I.tuple h1
      exact absurd rfl (ne_of_list_tuple (s := s) p1.isList p2)
    | _ => unfold Rep at q; cases q
theorem Reps.inj {X : Cx} {pins : List (Addr × Obj)} {σ : St} {H : Hp} {s : Shared} (I : Inv X pins σ H s) : ∀ (ds es : List D) {vs : List V}, Reps X.K H ds vs → Reps X.K H es vs → ds = es
  | [], es, vs, h, q => by
    unfold Reps at h; subst h
    cases es with
    | nil => rfl
    | cons e es => unfold Reps at q; obtain ⟨_, _, q, _⟩ := q; cases q
  | d :: ds, es, vs, h, q => by
    unfold Reps at h
    obtain ⟨v, r, rfl, h1, h2⟩ := h
    cases es with
    | nil => unfold Reps at q; cases q
    | cons e es =>
      unfold Reps at q
      obtain ⟨w, r', e1, q1, q2⟩ := q
      cases e1
      rw [Rep.inj I d e h1 q1, Reps.inj I ds es h2 q2]
end

section
variable {X : Cx} {pins : List (Addr × Obj)} {σ : St} {H : Hp} {s : Shared}
theorem flat_of {d : D} {x : V} (h : Rep X.K H d x) (f : flatV x = true) : (∃ b, d = .bl b ∧ x = .bl b) ∨ (∃ i, d = .int i ∧ x = .int i) ∨ (∃ z, d = .str z ∧ x = .str z) ∨ (d = .non ∧ x = .non) := by
  cases d with
  | non => unfold Rep at h; exact .inr (.inr (.inr ⟨rfl, h⟩))
  | bl b => unfold Rep at h; exact .inl ⟨b, rfl, h⟩
  | int b => unfold Rep at h; exact .inr (.inl ⟨b, rfl, h⟩)
  | str b => unfold Rep at h; exact .inr (.inr (.inl ⟨b, rfl, h⟩))
  | lst ds => unfold Rep at h; obtain ⟨a, xs, rfl, _⟩ := h; cases f
  | tup ds => unfold Rep at h; obtain ⟨a, xs, rfl, _⟩ := h; cases f
theorem eqV_pyEq {d e : D} {x y : V} (h : Rep X.K H d x) (q : Rep X.K H e y) (fx : flatV x = true) (fy : flatV y = true) : eqV x y = pyEq d e := by
  rcases flat_of h fx with ⟨b, rfl, rfl⟩ | ⟨b, rfl, rfl⟩ | ⟨b, rfl, rfl⟩ | ⟨rfl, rfl⟩ <;> rcases flat_of q fy with ⟨c, rfl, rfl⟩ | ⟨c, rfl, rfl⟩ | ⟨c, rfl, rfl⟩ | ⟨rfl, rfl⟩ <;> unfold pyEq eqV <;> rfl

theorem items_eq {A : Around} {ds es : List D} {xs ys : List V} {us vs : List Value} (hd : Reps X.K H ds xs) (he : Reps X.K H es ys) (ru : Vals xs us) (rv : Vals ys vs)
    (ih : ∀ (d e : D) (x y : V) (u v : Value), d ∈ ds → Rep X.K H d x → Rep X.K H e y → RelV x u → RelV y v → EqAt A s u v (pyEq d e)) :
    ∀ j (h1 : j < us.toArray.size) (h2 : j < vs.toArray.size), EqAt A s us.toArray[j] vs.toArray[j] (pyEq (ds.getD j .non) (es.getD j .non)) := by
  intro j h1 h2
  simp only [List.size_toArray] at h1 h2
  have l1 := hd.length
  have l2 := he.length
  have l3 := ru.length
  have l4 := rv.length
  have j1 : j < ds.length := by omega
  have j2 : j < es.length := by omega
  obtain ⟨x, ex, rx⟩ := hd.get (i := j) (d := ds[j]) (by simp [j1])
  obtain ⟨y, ey, ry⟩ := he.get (i := j) (d := es[j]) (by simp [j2])
  obtain ⟨u, eu, ru'⟩ := ru.get ex
  obtain ⟨v, ev, rv'⟩ := rv.get ey
  have e1 : us.toArray[j] = u := by
    obtain ⟨_, q⟩ := List.getElem?_eq_some_iff.mp eu
    simpa using q
  have e2 : vs.toArray[j] = v := by
    obtain ⟨_, q⟩ := List.getElem?_eq_some_iff.mp ev
    simpa using q
  rw [e1, e2, show ds.getD j .non = ds[j] by simp [List.getD, j1], show es.getD j .non = es[j] by simp [List.getD, j2]]
  exact ih _ _ x y u v (List.getElem_mem j1) rx ry ru' rv'

theorem eqAt_D (I : Inv X pins σ H s) : ∀ (n : Nat) (d e : D) (A : Around) (x y : V) (u v : Value), dep d ≤ n → A.units + n < cLine → Rep X.K H d x → Rep X.K H e y → RelV x u → RelV y v → EqAt A s u v (pyEq d e) := by
  intro n
  induction n with
  | zero =>
    intro d e A x y u v hn hu hd he ru rv
    have fx : flatV x = true := by
      cases d with
      | non => unfold Rep at hd; subst hd; rfl
      | bl b => unfold Rep at hd; subst hd; rfl
      | int b => unfold Rep at hd; subst hd; rfl
      | str b => unfold Rep at hd; subst hd; rfl
      | lst ds => unfold dep at hn; omega
      | tup ds => unfold dep at hn; omega
    by_cases fy : flatV y = true
    · rw [← eqV_pyEq hd he fx fy]
      exact eqAt_V ru rv fx fy
    · cases e with
      | non => unfold Rep at he; subst he; exact absurd rfl fy
      | bl b => unfold Rep at he; subst he; exact absurd rfl fy
      | int b => unfold Rep at he; subst he; exact absurd rfl fy
      | str b => unfold Rep at he; subst he; exact absurd rfl fy
      | lst es =>
        unfold Rep at he
        obtain ⟨a, ys, rfl, hq, _⟩ := he
        cases rv
        obtain ⟨_, _, p, _⟩ := I.list hq
        rcases flat_of hd fx with ⟨b, rfl, rfl⟩ | ⟨b, rfl, rfl⟩ | ⟨b, rfl, rfl⟩ | ⟨rfl, rfl⟩
        · cases ru; unfold pyEq; exact EqAt.bool_list b p.isList (by omega)
        · obtain ⟨t, rfl⟩ := ru; unfold pyEq; exact EqAt.int_list b t p.isList (by omega)
        · obtain ⟨t, rfl⟩ := ru; unfold pyEq; exact EqAt.str_list b t p.isList (by omega)
        · cases ru; unfold pyEq; exact EqAt.none_list p.isList (by omega)
      | tup es =>
        unfold Rep at he
        obtain ⟨a, ys, rfl, hq, _⟩ := he
        cases rv
        obtain ⟨_, _, p, _⟩ := I.tuple hq
        rcases flat_of hd fx with ⟨b, rfl, rfl⟩ | ⟨b, rfl, rfl⟩ | ⟨b, rfl, rfl⟩ | ⟨rfl, rfl⟩
        · cases ru; unfold pyEq; exact EqAt.bool_tuple b p (by omega)
        · obtain ⟨t, rfl⟩ := ru; unfold pyEq; exact EqAt.int_tuple b t p (by omega)
        · obtain ⟨t, rfl⟩ := ru; unfold pyEq; exact EqAt.str_tuple b t p (by omega)
        · cases ru; unfold pyEq; exact EqAt.none_tuple p (by omega)
  | succ n ih =>
    intro d e A x y u v hn hu hd he ru rv
    by_cases h0 : dep d ≤ n
    · exact ih d e A x y u v h0 (by omega) hd he ru rv
    · cases d with
      | non => unfold dep at h0; omega
      | bl b => unfold dep at h0; omega
      | int b => unfold dep at h0; omega
      | str b => unfold dep at h0; omega
      | lst ds =>
        unfold dep at hn
        have hd0 := hd
        unfold Rep at hd
        obtain ⟨a, xs, rfl, hx, rx⟩ := hd
        cases ru
        obtain ⟨its, vx, px, zx⟩ := I.list hx
        cases e with
        | non => unfold Rep at he; subst he; cases rv; unfold pyEq; exact EqAt.list_none px.isList (by omega)
        | bl b => unfold Rep at he; subst he; cases rv; unfold pyEq; exact EqAt.list_bool b px.isList (by omega)
        | int b => unfold Rep at he; subst he; obtain ⟨t, rfl⟩ := rv; unfold pyEq; exact EqAt.list_int b t px.isList (by omega)
        | str b => unfold Rep at he; subst he; obtain ⟨t, rfl⟩ := rv; unfold pyEq; exact EqAt.list_str b t px.isList (by omega)
        | tup es =>
          unfold Rep at he
          obtain ⟨b, ys, rfl, hy, ry⟩ := he
          cases rv
          obtain ⟨jts, vy, py, zy⟩ := I.tuple hy
          unfold pyEq
          exact EqAt.list_tuple px.isList py (by omega)
        | lst es =>
          have he0 := he
          unfold Rep at he
          obtain ⟨b, ys, rfl, hy, ry⟩ := he
          cases rv
          obtain ⟨jts, vy, py, zy⟩ := I.list hy
          by_cases hab : a = b
          · subst hab
            rw [Rep.inj I _ _ hd0 he0, pyEq_refl]
            exact EqAt.same _
          · refine EqAt.of_refs hab ?_
            unfold pyEq
            have l1 := rx.length
            have l2 := ry.length
            have l3 := vx.length
            have l4 := vy.length
            by_cases hl : ds.length = es.length
            · have q := RcAt.lists (A := A) (e := fun j => pyEq (ds.getD j .non) (es.getD j .non)) px.isList py.isList (by simp only [List.size_toArray]; omega) (by omega)
                (items_eq rx ry vx vy fun d e x y u v hm h1 h2 h3 h4 => ih d e A.in1 x y u v (Nat.le_trans (deps_mem hm) (by omega)) (by show A.units + 1 + n < cLine; omega) h1 h2 h3 h4)
              rw [show its.toArray.size = ds.length by rw [List.size_toArray]; omega, pyEqs_all hl] at q
              exact q
            · rw [show pyEqs ds es = false by
                cases h : pyEqs ds es with
                | false => rfl
                | true => exact absurd (pyEqs_len h) hl]
              exact RcAt.lists_lengths px.isList py.isList (by simp only [List.size_toArray, bne_iff_ne]; omega) (by omega)
      | tup ds =>
        unfold dep at hn
        have hd0 := hd
        unfold Rep at hd
        obtain ⟨a, xs, rfl, hx, rx⟩ := hd
        cases ru
        obtain ⟨its, vx, px, zx⟩ := I.tuple hx
        cases e with
        | non => unfold Rep at he; subst he; cases rv; unfold pyEq; exact EqAt.tuple_none px (by omega)
        | bl b => unfold Rep at he; subst he; cases rv; unfold pyEq; exact EqAt.tuple_bool b px (by omega)
        | int b => unfold Rep at he; subst he; obtain ⟨t, rfl⟩ := rv; unfold pyEq; exact EqAt.tuple_int b t px (by omega)
        | str b => unfold Rep at he; subst he; obtain ⟨t, rfl⟩ := rv; unfold pyEq; exact EqAt.tuple_str b t px (by omega)
        | lst es =>
          unfold Rep at he
          obtain ⟨b, ys, rfl, hy, ry⟩ := he
          cases rv
          obtain ⟨jts, vy, py, zy⟩ := I.list hy
          unfold pyEq
          exact EqAt.tuple_list px py.isList (by omega)
        | tup es =>
          have he0 := he
          unfold Rep at he
          obtain ⟨b, ys, rfl, hy, ry⟩ := he
          cases rv
          obtain ⟨jts, vy, py, zy⟩ := I.tuple hy
          by_cases hab : a = b
          · subst hab
            rw [Rep.inj I _ _ hd0 he0, pyEq_refl]
            exact EqAt.same _
          · refine EqAt.of_refs hab ?_
            unfold pyEq
            have l1 := rx.length
            have l2 := ry.length
            have l3 := vx.length
            have l4 := vy.length
            have q := RcAt.tuples (A := A) (e := fun j => pyEq (ds.getD j .non) (es.getD j .non)) px py (by omega)
                (items_eq rx ry vx vy fun d e x y u v hm h1 h2 h3 h4 => ih d e A.in1 x y u v (Nat.le_trans (deps_mem hm) (by omega)) (by show A.units + 1 + n < cLine; omega) h1 h2 h3 h4)
            by_cases hl : ds.length = es.length
            · rw [show min its.toArray.size jts.toArray.size = ds.length by rw [List.size_toArray, List.size_toArray]; omega, pyEqs_all hl, show (its.toArray.size == jts.toArray.size) = true by rw [List.size_toArray, List.size_toArray, beq_iff_eq]; omega, Bool.and_true] at q
              exact q
            · rw [show pyEqs ds es = false by
                cases h : pyEqs ds es with
                | false => rfl
                | true => exact absurd (pyEqs_len h) hl]
              rw [show (its.toArray.size == jts.toArray.size) = false by rw [List.size_toArray, List.size_toArray, beq_eq_false_iff_ne]; omega, Bool.and_false] at q
              exact q

theorem rcAt_D (I : Inv X pins σ H s) {n : Nat} {d e : D} {A : Around} {a b : Addr} (hn : dep d ≤ n) (hu : A.units + n < cLine) (hd : Rep X.K H d (.ref a)) (he : Rep X.K H e (.ref b)) : RcAt A s (.ref a) (.ref b) (pyEq d e) ∧ RcNeAt A s (.ref a) (.ref b) (!pyEq d e) := by
  cases d with
  | non => unfold Rep at hd; cases hd
  | bl _ => unfold Rep at hd; cases hd
  | int _ => unfold Rep at hd; cases hd
  | str _ => unfold Rep at hd; cases hd
  | lst ds =>
    unfold dep at hn
    unfold Rep at hd
    obtain ⟨_, xs, e1, hx, rx⟩ := hd
    cases e1
    obtain ⟨its, vx, px, zx⟩ := I.list hx
    cases e with
    | non => unfold Rep at he; cases he
    | bl _ => unfold Rep at he; cases he
    | int _ => unfold Rep at he; cases he
    | str _ => unfold Rep at he; cases he
    | tup es =>
      unfold Rep at he
      obtain ⟨_, ys, e1, hy, ry⟩ := he
      cases e1
      obtain ⟨jts, vy, py, zy⟩ := I.tuple hy
      unfold pyEq
      exact ⟨RcAt.list_tuple px.isList py (by omega), RcNeAt.list_tuple px.isList py (by omega)⟩
    | lst es =>
      unfold Rep at he
      obtain ⟨_, ys, e1, hy, ry⟩ := he
      cases e1
      obtain ⟨jts, vy, py, zy⟩ := I.list hy
      unfold pyEq
      have l1 := rx.length
      have l2 := ry.length
      have l3 := vx.length
      have l4 := vy.length
      by_cases hl : ds.length = es.length
      · have it := items_eq (s := s) (A := A.in1) rx ry vx vy fun d e x y u v hm h1 h2 h3 h4 => eqAt_D I (n - 1) d e A.in1 x y u v (Nat.le_trans (deps_mem hm) (by omega)) (by show A.units + 1 + (n - 1) < cLine; omega) h1 h2 h3 h4
        have q := RcAt.lists (A := A) px.isList py.isList (by simp only [List.size_toArray]; omega) (by omega) it
        have q2 := RcNeAt.lists (A := A) px.isList py.isList (by simp only [List.size_toArray]; omega) (by omega) it
        rw [show its.toArray.size = ds.length by rw [List.size_toArray]; omega, pyEqs_all hl] at q q2
        exact ⟨q, q2⟩
      · rw [show pyEqs ds es = false by
          cases h : pyEqs ds es with
          | false => rfl
          | true => exact absurd (pyEqs_len h) hl]
        exact ⟨RcAt.lists_lengths px.isList py.isList (by simp only [List.size_toArray, bne_iff_ne]; omega) (by omega), RcNeAt.lists_lengths px.isList py.isList (by simp only [List.size_toArray, bne_iff_ne]; omega) (by omega)⟩
  | tup ds =>
    unfold dep at hn
    unfold Rep at hd
    obtain ⟨_, xs, e1, hx, rx⟩ := hd
    cases e1
    obtain ⟨its, vx, px, zx⟩ := I.tuple hx
    cases e with
    | non => unfold Rep at he; cases he
    | bl _ => unfold Rep at he; cases he
    | int _ => unfold Rep at he; cases he
    | str _ => unfold Rep at he; cases he
    | lst es =>
      unfold Rep at he
      obtain ⟨_, ys, e1, hy, ry⟩ := he
      cases e1
      obtain ⟨jts, vy, py, zy⟩ := I.list hy
      unfold pyEq
      exact ⟨RcAt.tuple_list px py.isList (by omega), RcNeAt.tuple_list px py.isList (by omega)⟩
    | tup es =>
      unfold Rep at he
      obtain ⟨_, ys, e1, hy, ry⟩ := he
      cases e1
      obtain ⟨jts, vy, py, zy⟩ := I.tuple hy
      unfold pyEq
      have l1 := rx.length
      have l2 := ry.length
      have l3 := vx.length
      have l4 := vy.length
      have it := items_eq (s := s) (A := A.in1) rx ry vx vy fun d e x y u v hm h1 h2 h3 h4 => eqAt_D I (n - 1) d e A.in1 x y u v (Nat.le_trans (deps_mem hm) (by omega)) (by show A.units + 1 + (n - 1) < cLine; omega) h1 h2 h3 h4
      have q := RcAt.tuples (A := A) px py (by omega) it
      have q2 := RcNeAt.tuples (A := A) px py (by omega) it
      by_cases hl : ds.length = es.length
      · rw [show min its.toArray.size jts.toArray.size = ds.length by rw [List.size_toArray, List.size_toArray]; omega, pyEqs_all hl, show (its.toArray.size == jts.toArray.size) = true by rw [List.size_toArray, List.size_toArray, beq_iff_eq]; omega, Bool.and_true] at q q2
        exact ⟨q, q2⟩
      · rw [show pyEqs ds es = false by
          cases h : pyEqs ds es with
          | false => rfl
          | true => exact absurd (pyEqs_len h) hl]
        rw [show (its.toArray.size == jts.toArray.size) = false by rw [List.size_toArray, List.size_toArray, beq_eq_false_iff_ne]; omega, Bool.and_false] at q q2
        exact ⟨q, q2⟩
end

/-- == and != of two lists or tuples -/
def rEqD (K : PySem.W.Frag) (neg : Bool) : R2 := fun x y H Q => ∃ a b d e, x = .ref a ∧ y = .ref b ∧ Rep K H d (.ref a) ∧ Rep K H e (.ref b) ∧ dep d ≤ 60 ∧ Q (.bl (if neg then !pyEq d e else pyEq d e)) H
section
variable {X : Cx} {k : Nat}
theorem op_eqD (hr : Room k X.A) : OpR X (compareOp .Eq) (rEqD X.K false) := by
  intro pins s σ H x y v u Q I rx ry h
  obtain ⟨a, b, d, e, rfl, rfl, hd, he, hn, q⟩ := h
  cases rx; cases ry
  exact (rcAt_D I (A := X.A) hn (by have := hr.units; omega) hd he).1 X.prog X.w X.xe _ ⟨.bl _, H, I, rfl, q⟩
theorem op_neD (hr : Room k X.A) : OpR X (compareOp .NotEq) (rEqD X.K true) := by
  intro pins s σ H x y v u Q I rx ry h
  obtain ⟨a, b, d, e, rfl, rfl, hd, he, hn, q⟩ := h
  cases rx; cases ry
  exact (rcAt_D I (A := X.A) hn (by have := hr.units; omega) hd he).2 X.prog X.w X.xe _ ⟨.bl _, H, I, rfl, q⟩

/-! ### isinstance(x, T), T a built-in type -/
theorem call_isinst : CallR X (.builtin "isinstance") (fun xs H Q => ∃ x c t b, xs = [x, .ty c] ∧ TyOf X.K H x t ∧ PySem.W.kitOne X.K t (.type c) = some b ∧ Q (.bl b) H) := by
  intro pins s σ H xs us Q I r h
  obtain ⟨x, c, t, b, rfl, ty, e, q⟩ := h
  obtain ⟨u, v, rfl, ru, rv⟩ := vals2 r
  cases rv
  exact isinst_ok I ru ty e fun tk => ⟨.bl b, H, I.tok tk, rfl, q⟩
end
end L2

set_option Elab.async false
set_option linter.all false
set_option maxRecDepth 100000
namespace L2
open PySem PySem.Spec PyProof.Rows

/-! ### data with its own addresses -/
mutual
def RepF (H : Hp) : D → V → List Addr → Prop
  | .non, v, fp => v = .non ∧ fp = []
  | .bl b, v, fp => v = .bl b ∧ fp = []
  | .int i, v, fp => v = .int i ∧ fp = []
  | .str x, v, fp => v = .str x ∧ fp = []
  | .lst ds, v, fp => ∃ a xs r, v = .ref a ∧ fp = a :: r ∧ H a = some (.lst xs) ∧ RepFs H ds xs r
  | .tup ds, v, fp => ∃ a xs, v = .ref a ∧ H a = some (.tup xs) ∧ RepFs H ds xs fp
def RepFs (H : Hp) : List D → List V → List Addr → Prop
  | [], vs, fp => vs = [] ∧ fp = []
  | d :: ds, vs, fp => ∃ v r f g, vs = v :: r ∧ fp = f ++ g ∧ RepF H d v f ∧ RepFs H ds r g
end
mutual
theorem RepF.rep {K : PySem.W.Frag} {H : Hp} : ∀ (d : D) {v : V} {fp : List Addr}, RepF H d v fp → Rep K H d v
  | .non, _, _, h => by unfold RepF at h; unfold Rep; exact h.1
  | .bl _, _, _, h => by unfold RepF at h; unfold Rep; exact h.1
  | .int _, _, _, h => by unfold RepF at h; unfold Rep; exact h.1
  | .str _, _, _, h => by unfold RepF at h; unfold Rep; exact h.1
  | .lst ds, _, _, h => by
    unfold RepF at h; unfold Rep
    obtain ⟨a, xs, r, h1, _, h2, h3⟩ := h
    exact ⟨a, xs, h1, SqL.of h2, RepFs.reps ds h3⟩
  | .tup ds, _, _, h => by
    unfold RepF at h; unfold Rep
    obtain ⟨a, xs, h1, h2, h3⟩ := h
    exact ⟨a, xs, h1, SqT.of h2, RepFs.reps ds h3⟩
theorem RepFs.reps {K : PySem.W.Frag} {H : Hp} : ∀ (ds : List D) {vs : List V} {fp : List Addr}, RepFs H ds vs fp → Reps K H ds vs
  | [], _, _, h => by unfold RepFs at h; unfold Reps; exact h.1
  | d :: ds, _, _, h => by
    unfold RepFs at h; unfold Reps
    obtain ⟨v, r, f, g, h1, _, h2, h3⟩ := h
    exact ⟨v, r, h1, RepF.rep d h2, RepFs.reps ds h3⟩
end
/-- tuples stay -/
def Tups (H H' : Hp) : Prop := ∀ b xs, H b = some (.tup xs) → H' b = some (.tup xs)
theorem Same.tups {H H' : Hp} (e : Same H H') : Tups H H' := fun _ _ h => e _ _ h
theorem Tups.trans {H H1 H2 : Hp} (a : Tups H H1) (b : Tups H1 H2) : Tups H H2 := fun c o h => b c o (a c o h)
theorem tups_upd {H : Hp} {a : Addr} {o : HO} (h : ∀ xs, H a ≠ some (.tup xs)) : Tups H (upd H a o) := fun b xs e => by rw [upd_ne (fun z => h xs (by rw [← z]; exact e))]; exact e
theorem tups_lst {H : Hp} {a : Addr} {o : HO} {ys : List V} (h : H a = some (.lst ys)) : Tups H (upd H a o) := tups_upd fun xs e => by rw [h] at e; cases e
mutual
theorem RepF.frame {H H' : Hp} (tk : Tups H H') : ∀ (d : D) {v : V} {fp : List Addr}, (∀ a ∈ fp, H' a = H a) → RepF H d v fp → RepF H' d v fp
  | .non, _, _, _, h => by unfold RepF at *; exact h
  | .bl _, _, _, _, h => by unfold RepF at *; exact h
  | .int _, _, _, _, h => by unfold RepF at *; exact h
  | .str _, _, _, _, h => by unfold RepF at *; exact h
  | .lst ds, _, _, k, h => by
    unfold RepF at *
    obtain ⟨a, xs, r, h1, h0, h2, h3⟩ := h
    subst h0
    exact ⟨a, xs, r, h1, rfl, (k a List.mem_cons_self).trans h2, RepFs.frame tk ds (fun b hb => k b (List.mem_cons_of_mem _ hb)) h3⟩
  | .tup ds, _, _, k, h => by
    unfold RepF at *
    obtain ⟨a, xs, h1, h2, h3⟩ := h
    exact ⟨a, xs, h1, tk _ _ h2, RepFs.frame tk ds k h3⟩
theorem RepFs.frame {H H' : Hp} (tk : Tups H H') : ∀ (ds : List D) {vs : List V} {fp : List Addr}, (∀ a ∈ fp, H' a = H a) → RepFs H ds vs fp → RepFs H' ds vs fp
  | [], _, _, _, h => by unfold RepFs at *; exact h
  | d :: ds, _, _, k, h => by
    unfold RepFs at *
    obtain ⟨v, r, f, g, h1, h0, h2, h3⟩ := h
    subst h0
    exact ⟨v, r, f, g, h1, rfl, RepF.frame tk d (fun b hb => k b (List.mem_append_left _ hb)) h2, RepFs.frame tk ds (fun b hb => k b (List.mem_append_right _ hb)) h3⟩
end
mutual
theorem RepF.has {H : Hp} : ∀ (d : D) {v : V} {fp : List Addr}, RepF H d v fp → ∀ a ∈ fp, ∃ o, H a = some o
  | .non, _, _, h, a, m => by unfold RepF at h; rw [h.2] at m; cases m
  | .bl _, _, _, h, a, m => by unfold RepF at h; rw [h.2] at m; cases m
  | .int _, _, _, h, a, m => by unfold RepF at h; rw [h.2] at m; cases m
  | .str _, _, _, h, a, m => by unfold RepF at h; rw [h.2] at m; cases m
  | .lst ds, _, _, h, b, m => by
    unfold RepF at h
    obtain ⟨a, xs, r, h1, h0, h2, h3⟩ := h
    subst h0
    rcases List.mem_cons.mp m with m | m
    · subst m; exact ⟨_, h2⟩
    · exact RepFs.has ds h3 b m
  | .tup ds, _, _, h, b, m => by
    unfold RepF at h
    obtain ⟨a, xs, h1, h2, h3⟩ := h
    exact RepFs.has ds h3 b m
theorem RepFs.has {H : Hp} : ∀ (ds : List D) {vs : List V} {fp : List Addr}, RepFs H ds vs fp → ∀ a ∈ fp, ∃ o, H a = some o
  | [], _, _, h, a, m => by unfold RepFs at h; rw [h.2] at m; cases m
  | d :: ds, _, _, h, b, m => by
    unfold RepFs at h
    obtain ⟨v, r, f, g, h1, h0, h2, h3⟩ := h
    subst h0
    rcases List.mem_append.mp m with m | m
    · exact RepF.has d h2 b m
    · exact RepFs.has ds h3 b m
end
theorem RepFs.length {H : Hp} : ∀ {ds : List D} {vs : List V} {fp : List Addr}, RepFs H ds vs fp → ds.length = vs.length
  | [], _, _, h => by unfold RepFs at h; rw [h.1]; rfl
  | d :: ds, _, _, h => by
    unfold RepFs at h
    obtain ⟨v, r, f, g, rfl, _, _, h3⟩ := h
    simp [RepFs.length h3]
theorem RepFs.snoc {H : Hp} : ∀ {ds : List D} {vs : List V} {fp : List Addr} {d : D} {v : V} {f : List Addr}, RepFs H ds vs fp → RepF H d v f → RepFs H (ds ++ [d]) (vs ++ [v]) (fp ++ f)
  | [], _, _, d, v, f, h, q => by
    unfold RepFs at h
    obtain ⟨rfl, rfl⟩ := h
    show RepFs H [d] [v] ([] ++ f)
    unfold RepFs
    exact ⟨v, [], f, [], rfl, by simp, q, by unfold RepFs; exact ⟨rfl, rfl⟩⟩
  | c :: ds, _, _, d, v, f, h, q => by
    unfold RepFs at h
    obtain ⟨u, r, f1, g1, rfl, rfl, h2, h3⟩ := h
    rw [List.cons_append, List.cons_append, List.append_assoc]
    unfold RepFs
    exact ⟨u, _, f1, _, rfl, rfl, h2, RepFs.snoc h3 q⟩
theorem RepFs.get {H : Hp} : ∀ {ds : List D} {vs : List V} {fp : List Addr} {i : Nat} {d : D}, RepFs H ds vs fp → ds[i]? = some d → ∃ v f, vs[i]? = some v ∧ RepF H d v f ∧ (∀ a ∈ f, a ∈ fp)
  | [], _, _, i, d, _, e => by simp at e
  | c :: ds, _, _, i, d, h, e => by
    unfold RepFs at h
    obtain ⟨u, r, f1, g1, rfl, rfl, h2, h3⟩ := h
    cases i with
    | zero => simp at e; subst e; exact ⟨u, f1, rfl, h2, fun a m => List.mem_append_left _ m⟩
    | succ i =>
      obtain ⟨v, f, e1, e2, e3⟩ := RepFs.get h3 (show ds[i]? = some d by simpa using e)
      exact ⟨v, f, by simpa using e1, e2, fun a m => List.mem_append_right _ (e3 a m)⟩
theorem RepFs.ints {H : Hp} : ∀ {ns : List Int}, RepFs H (ns.map D.int) (ns.map V.int) []
  | [] => by unfold List.map RepFs; exact ⟨rfl, rfl⟩
  | n :: ns => by
    rw [List.map_cons, List.map_cons]
    unfold RepFs
    exact ⟨_, _, [], [], rfl, rfl, by unfold RepF; exact ⟨rfl, rfl⟩, RepFs.ints⟩
theorem RepFs.ints_eq {H : Hp} : ∀ {ns : List Int} {vs : List V} {fp : List Addr}, RepFs H (ns.map D.int) vs fp → vs = ns.map V.int ∧ fp = []
  | [], _, _, h => by unfold List.map RepFs at h; exact h
  | n :: ns, _, _, h => by
    rw [List.map_cons] at h
    unfold RepFs at h
    obtain ⟨v, r, f, g, rfl, rfl, h1, h2⟩ := h
    unfold RepF at h1
    obtain ⟨rfl, rfl⟩ := h1
    obtain ⟨rfl, rfl⟩ := RepFs.ints_eq h2
    exact ⟨rfl, rfl⟩

theorem dep_ints : ∀ ns : List Int, dep (.lst (ns.map D.int)) ≤ 1
  | [] => by unfold List.map dep deps; exact Nat.le_refl _
  | n :: ns => by
    have ih := dep_ints ns
    unfold dep at ih ⊢
    rw [List.map_cons]
    unfold deps dep
    omega
/-- a new thing: d at v, all its addresses its own and free ahead -/
def New (H H' : Hp) (d : D) (v : V) : Prop := ∃ fp, RepF H' d v fp ∧ fp.Nodup ∧ ∀ a ∈ fp, H a = none
abbrev nums (ns : List Int) : D := .lst (ns.map D.int)
theorem New.rep {K : PySem.W.Frag} {H H' : Hp} {d : D} {v : V} (h : New H H' d v) : Rep K H' d v := let ⟨_, h, _⟩ := h; RepF.rep d h
theorem New.int {H H' : Hp} {i : Int} : New H H' (.int i) (.int i) := ⟨[], by unfold RepF; exact ⟨rfl, rfl⟩, List.nodup_nil, fun _ m => by cases m⟩
theorem New.bl {H H' : Hp} {i : Bool} : New H H' (.bl i) (.bl i) := ⟨[], by unfold RepF; exact ⟨rfl, rfl⟩, List.nodup_nil, fun _ m => by cases m⟩
theorem New.str {H H' : Hp} {i : Str} : New H H' (.str i) (.str i) := ⟨[], by unfold RepF; exact ⟨rfl, rfl⟩, List.nodup_nil, fun _ m => by cases m⟩
theorem New.non {H H' : Hp} : New H H' .non .non := ⟨[], by unfold RepF; exact ⟨rfl, rfl⟩, List.nodup_nil, fun _ m => by cases m⟩
theorem New.int_eq {H H' : Hp} {i : Int} {v : V} (h : New H H' (.int i) v) : v = .int i := by obtain ⟨_, h, _⟩ := h; unfold RepF at h; exact h.1
theorem New.bl_eq {H H' : Hp} {i : Bool} {v : V} (h : New H H' (.bl i) v) : v = .bl i := by obtain ⟨_, h, _⟩ := h; unfold RepF at h; exact h.1
theorem New.back {H0 H H' : Hp} {d : D} {v : V} (e : Same H0 H) (h : New H H' d v) : New H0 H' d v := by
  obtain ⟨fp, h1, h2, h3⟩ := h
  exact ⟨fp, h1, h2, fun a m => e.free (h3 a m)⟩
theorem New.same {H H' H2 : Hp} {d : D} {v : V} (e : Same H' H2) (h : New H H' d v) : New H H2 d v := by
  obtain ⟨fp, h1, h2, h3⟩ := h
  refine ⟨fp, RepF.frame e.tups d (fun a m => ?_) h1, h2, h3⟩
  obtain ⟨o, ho⟩ := RepF.has d h1 a m
  rw [ho, e a o ho]
theorem New.ints_iff {H H' : Hp} {ns : List Int} {v : V} : New H H' (nums ns) v ↔ ∃ a, v = .ref a ∧ H a = none ∧ H' a = some (.lst (ns.map V.int)) := by
  constructor
  · rintro ⟨fp, h1, h2, h3⟩
    unfold RepF at h1
    obtain ⟨a, xs, r, e1, e2, e3, e4⟩ := h1
    obtain ⟨rfl, rfl⟩ := RepFs.ints_eq e4
    subst e2
    exact ⟨a, e1, h3 a List.mem_cons_self, e3⟩
  · rintro ⟨a, e1, e2, e3⟩
    refine ⟨[a], ?_, by simp, fun b m => by rw [List.mem_singleton.mp m]; exact e2⟩
    unfold RepF
    exact ⟨a, _, [], e1, rfl, e3, RepFs.ints⟩
theorem rep_ints {K : PySem.W.Frag} {H : Hp} {ns : List Int} {v : V} : Rep K H (nums ns) v ↔ ∃ a, v = .ref a ∧ SqL K H a (ns.map V.int) := by
  unfold Rep
  constructor
  · rintro ⟨a, xs, e1, e2, e3⟩
    rw [Reps.ints.mp e3] at e2
    exact ⟨a, e1, e2⟩
  · rintro ⟨a, e1, e2⟩
    exact ⟨a, _, e1, e2, Reps.ints.mpr rfl⟩
theorem same_upd {H : Hp} {p : Addr} (h : H p = none) (o : HO) : Same H (upd H p o) := fun b u q => by rw [upd_ne (ne_of_none q h)]; exact q
/-- what a new list of several new things is -/
theorem New.lst {H1 H' : Hp} {ds : List D} {vs : List V} {fp : List Addr} {a : Addr} (h : RepFs H' ds vs fp) (nd : fp.Nodup) (hf : ∀ b ∈ fp, H1 b = none) (ha : H1 a = none) (na : a ∉ fp) (hH : H' a = some (.lst vs)) : New H1 H' (.lst ds) (.ref a) := by
  refine ⟨a :: fp, ?_, List.nodup_cons.mpr ⟨na, nd⟩, fun b m => ?_⟩
  · unfold RepF; exact ⟨a, vs, fp, rfl, rfl, hH, h⟩
  · rcases List.mem_cons.mp m with m | m
    · subst m; exact ha
    · exact hf b m
theorem New.tup {H1 H' : Hp} {ds : List D} {vs : List V} {fp : List Addr} {a : Addr} (h : RepFs H' ds vs fp) (nd : fp.Nodup) (hf : ∀ b ∈ fp, H1 b = none) (hH : H' a = some (.tup vs)) : New H1 H' (.tup ds) (.ref a) := by
  refine ⟨fp, ?_, nd, hf⟩
  unfold RepF; exact ⟨a, vs, rfl, hH, h⟩

/-! ### what a comprehension walks, told once -/
structure Goes (J : It) (H1 : Hp) (n : Nat) (P : Nat → V → Hp → Prop) : Prop where
  go : ∀ i H, i < n → Same H1 H → J.go i H
  stop : ∀ H, Same H1 H → J.stop n H
  yld : ∀ i H x H', i < n → Same H1 H → J.yld i H x H' → Same H H' ∧ P i x H'
theorem goes_list {K : PySem.W.Frag} {a : Addr} {xs : List V} {H1 : Hp} (h : SqL K H1 a xs) : Goes (Itl K a) H1 xs.length (fun i x _ => xs[i]? = some x) where
  go := fun i H hi e => ⟨xs, xs[i], e.seq h, by simp [hi]⟩
  stop := fun H e => ⟨xs, e.seq h, Nat.le_refl _⟩
  yld := fun i H x H' hi e q => by
    obtain ⟨rfl, q⟩ := q
    exact ⟨Same.refl _, q xs (e.seq h)⟩
theorem goes_tup {K : PySem.W.Frag} {a : Addr} {xs : List V} {H1 : Hp} (h : SqT K H1 a xs) : Goes (Itt K a) H1 xs.length (fun i x _ => xs[i]? = some x) where
  go := fun i H hi e => ⟨xs, xs[i], e.tup h, by simp [hi]⟩
  stop := fun H e => ⟨xs, e.tup h, Nat.le_refl _⟩
  yld := fun i H x H' hi e q => by
    obtain ⟨rfl, q⟩ := q
    exact ⟨Same.refl _, q xs (e.tup h)⟩
theorem goes_range {lo : Int} {n : Nat} {H1 : Hp} : Goes (Itr lo n) H1 n (fun i x _ => x = .int (lo + i)) where
  go := fun i H hi e => hi
  stop := fun H e => Nat.le_refl _
  yld := fun i H x H' hi e q => by
    obtain ⟨rfl, q⟩ := q
    exact ⟨Same.refl _, q⟩
theorem goes_zip {K : PySem.W.Frag} {a b : Addr} {xs ys : List V} {H1 : Hp} {n : Nat} (h : SqL K H1 a xs) (h2 : SqL K H1 b ys) (hn : n = min xs.length ys.length) :
    Goes (Itz K a b) H1 n (fun i v H => ∃ T x y, v = .ref T ∧ H T = some (.tup [x, y]) ∧ xs[i]? = some x ∧ ys[i]? = some y) where
  go := fun i H hi e => ⟨xs, ys, xs[i]'(by omega), ys[i]'(by omega), e.seq h, e.seq h2, by simp, by simp⟩
  stop := fun H e => ⟨xs, ys, e.seq h, e.seq h2, by
    rcases Nat.le_total xs.length ys.length with z | z
    · exact .inl (by simp; omega)
    · exact .inr (by simp; omega)⟩
  yld := fun i H x H' hi e q => by
    obtain ⟨T, nT, rfl, q⟩ := q
    have i1 : i < xs.length := by omega
    have i2 : i < ys.length := by omega
    have := q xs ys xs[i] ys[i] (e.seq h) (e.seq h2) (by simp) (by simp)
    subst this
    exact ⟨same_upd nT _, T, _, _, rfl, upd_same, by simp, by simp⟩
theorem goes_enum {K : PySem.W.Frag} {a : Addr} {xs : List V} {H1 : Hp} (h : SqL K H1 a xs) :
    Goes (Itn K a) H1 xs.length (fun i v H => ∃ T x, v = .ref T ∧ H T = some (.tup [.int i, x]) ∧ xs[i]? = some x) where
  go := fun i H hi e => ⟨xs, xs[i], e.seq h, by simp [hi]⟩
  stop := fun H e => ⟨xs, e.seq h, Nat.le_refl _⟩
  yld := fun i H x H' hi e q => by
    obtain ⟨T, nT, rfl, q⟩ := q
    have := q xs xs[i] (e.seq h) (by simp)
    subst this
    exact ⟨same_upd nT _, T, _, rfl, upd_same, by simp⟩
theorem goes_rev {K : PySem.W.Frag} {a : Addr} {xs : List V} {H1 : Hp} (h : SqL K H1 a xs) : Goes (Itv K a xs.length) H1 xs.length (fun i x _ => xs.reverse[i]? = some x) where
  go := fun i H hi e => ⟨hi, xs, e.seq h, rfl⟩
  stop := fun H e => Nat.le_refl _
  yld := fun i H x H' hi e q => by
    obtain ⟨rfl, q⟩ := q
    refine ⟨Same.refl _, ?_⟩
    rw [List.getElem?_reverse hi]
    exact q xs (e.seq h)

/-- a comprehension's loop, behind its iterator -/
def CompGo (J : It) (g : TG) (tt : TT) (te : TE) (σ0 : St) (H1 : Hp) (Q : VK) : Prop := ∀ D, H1 D = none →
  ∃ W : Nat → Nat → List V → Hp → Prop, (∃ m, W 0 m [] (upd H1 D (.lst []))) ∧ ∀ i m ys H, W i m ys H → H D = some (.lst ys) ∧
    ((J.stop i H ∧ Q (.ref D) H) ∨ (J.go i H ∧ ys.length < sizeLine ∧ ∃ N : List V → Hp → Prop, (∀ ys' H', N ys' H' → ∃ m', m' < m ∧ W (i + 1) m' ys' H') ∧
      ∀ x H', J.yld i H x H' → g x σ0 H' fun σ2 H2 => tt σ2 H2 fun b H3 => if b = true then te σ2 H3 fun y H4 => H4 D = some (.lst ys) ∧ N (ys ++ [y]) (upd H4 D (.lst (ys ++ [y]))) else N ys H3))
/-- a for loop, behind its iterator -/
def ForGo (J : It) (g : TG) (tb : TS) (D : Ends) (σ : St) (H1 : Hp) : Prop := ∃ W : Nat → Nat → St → Hp → Prop, (∃ m, W 0 m σ H1) ∧ ∀ i m σ H, W i m σ H →
  (J.stop i H ∧ D.nx σ H) ∨ (J.go i H ∧ ∃ N : St → Hp → Prop, (∀ σ' H', N σ' H' → ∃ m', m' < m ∧ W (i + 1) m' σ' H') ∧ ∀ x H', J.yld i H x H' → g x σ H' fun σ2 H2 => tb { D with nx := N, ct := N, bk := D.nx } σ2 H2)
/-- each turn makes a new thing and changes nothing else -/
theorem comp_gen {J : It} {H1 : Hp} {n : Nat} {P : Nat → V → Hp → Prop} {g : TG} {te : TE} {σ0 : St} {Q : VK} (wk : Goes J H1 n P) (ds : List D) (hn : ds.length = n) (hz : n ≤ sizeLine)
    (step : ∀ i x d H' (R : VK), i < n → ds[i]? = some d → Same H1 H' → P i x H' → (∀ y H3, Same H' H3 → New H' H3 d y → R y H3) → g x σ0 H' fun σ2 H2 => te σ2 H2 R)
    (fin : ∀ v H', Same H1 H' → New H1 H' (.lst ds) v → Q v H') :
    CompGo J g tTrue te σ0 H1 Q := by
  intro Da hD
  refine ⟨fun i m ys H => m = n - i ∧ i ≤ n ∧ Same H1 H ∧ H Da = some (.lst ys) ∧ ∃ fp, RepFs H (ds.take i) ys fp ∧ fp.Nodup ∧ Da ∉ fp ∧ ∀ b ∈ fp, H1 b = none, ⟨n, rfl, Nat.zero_le _, same_upd hD _, upd_same, [], ?_, List.nodup_nil, by simp, fun _ m => by cases m⟩, ?_⟩
  · rw [List.take_zero]; unfold RepFs; exact ⟨rfl, rfl⟩
  rintro i m ys H ⟨rfl, hi, hs, hH, fp, hr, nd, na, hf⟩
  refine ⟨hH, ?_⟩
  have hl := hr.length
  rw [List.length_take] at hl
  by_cases hlt : i < n
  · refine .inr ⟨wk.go i H hlt hs, by omega, fun ys' H' => (n - (i + 1) < n - i ∧ i + 1 ≤ n ∧ Same H1 H' ∧ H' Da = some (.lst ys') ∧ ∃ fp, RepFs H' (ds.take (i + 1)) ys' fp ∧ fp.Nodup ∧ Da ∉ fp ∧ ∀ b ∈ fp, H1 b = none), fun ys' H' ⟨q1, q2, q3, q4, q5⟩ => ⟨n - (i + 1), q1, rfl, q2, q3, q4, q5⟩, fun x H' hy => ?_⟩
    obtain ⟨s1, hp⟩ := wk.yld i H x H' hlt hs hy
    have hi' : i < ds.length := by omega
    refine step i x ds[i] H' _ hlt (by simp) (hs.trans s1) hp fun y H3 s3 hn3 => ?_
    have hD3 : H3 Da = some (.lst ys) := s3 _ _ (s1 _ _ hH)
    refine ⟨hD3, by omega, hlt, ?_, upd_same, ?_⟩
    · intro b o e
      rw [upd_ne (ne_of_none e hD)]
      exact s3 _ _ (s1 _ _ (hs _ _ e))
    · obtain ⟨fq, h1, h2, h3⟩ := hn3
      have keep : ∀ b ∈ fp, (upd H3 Da (.lst (ys ++ [y]))) b = H b := fun b hb => by
        obtain ⟨o, ho⟩ := RepFs.has _ hr b hb
        rw [upd_ne (show b ≠ Da from fun z => na (by rw [← z]; exact hb)), ho]
        exact s3 _ _ (s1 _ _ ho)
      have nDq : Da ∉ fq := fun z => by
        have := h3 Da z
        rw [s1 _ _ hH] at this; cases this
      have tk2 : Tups H3 (upd H3 Da (.lst (ys ++ [y]))) := tups_lst hD3
      have tk1 : Tups H (upd H3 Da (.lst (ys ++ [y]))) := ((s1.trans s3).tups).trans tk2
      have keep2 : ∀ b ∈ fq, (upd H3 Da (.lst (ys ++ [y]))) b = H3 b := fun b hb => by rw [upd_ne (show b ≠ Da from fun z => nDq (by rw [← z]; exact hb))]
      refine ⟨fp ++ fq, ?_, ?_, ?_, ?_⟩
      · have := (RepFs.frame tk1 _ keep hr).snoc (RepF.frame tk2 _ keep2 h1)
        rw [List.take_add_one, show ds[i]?.toList = [ds[i]] by simp [hi']]
        exact this
      · refine List.nodup_append.mpr ⟨nd, h2, fun a ha b hb z => ?_⟩
        subst z
        obtain ⟨o, ho⟩ := RepFs.has _ hr a ha
        have := h3 a hb
        rw [s1 _ _ ho] at this; cases this
      · exact fun z => (List.mem_append.mp z).elim na nDq
      · intro b hb
        rcases List.mem_append.mp hb with z | z
        · exact hf b z
        · exact (hs.trans s1).free (h3 b z)
  · have e : i = n := by omega
    subst e
    refine .inl ⟨wk.stop H hs, fin _ _ hs ?_⟩
    rw [List.take_of_length_le (by omega)] at hr
    exact New.lst hr nd hf hD na hH
/-- with a test: the turns that pass make a new thing each -/
theorem comp_filt {J : It} {H1 : Hp} {n : Nat} {P : Nat → V → Hp → Prop} {g : TG} {tt : TT} {te : TE} {σ0 : St} {Q : VK} (wk : Goes J H1 n P) (k : Nat → Bool) (d : Nat → D) (hz : n ≤ sizeLine)
    (step : ∀ i x H' (R1 : VK) (R2 : Hp → Prop), i < n → Same H1 H' → P i x H' → (k i = true → ∀ y H3, Same H' H3 → New H' H3 (d i) y → R1 y H3) → (k i = false → ∀ H3, Same H' H3 → R2 H3) →
      g x σ0 H' fun σ2 H2 => tt σ2 H2 fun b H3 => if b = true then te σ2 H3 R1 else R2 H3)
    (fin : ∀ v H', Same H1 H' → New H1 H' (.lst (((List.range n).filter k).map d)) v → Q v H') :
    CompGo J g tt te σ0 H1 Q := by
  intro Da hD
  refine ⟨fun i m ys H => m = n - i ∧ i ≤ n ∧ Same H1 H ∧ H Da = some (.lst ys) ∧ ∃ fp, RepFs H (((List.range i).filter k).map d) ys fp ∧ fp.Nodup ∧ Da ∉ fp ∧ ∀ b ∈ fp, H1 b = none, ⟨n, rfl, Nat.zero_le _, same_upd hD _, upd_same, [], ?_, List.nodup_nil, by simp, fun _ m => by cases m⟩, ?_⟩
  · simp only [List.range_zero, List.filter_nil, List.map_nil]; unfold RepFs; exact ⟨rfl, rfl⟩
  rintro i m ys H ⟨rfl, hi, hs, hH, fp, hr, nd, na, hf⟩
  refine ⟨hH, ?_⟩
  have hl := hr.length
  have hl2 : ((List.range i).filter k).length ≤ i := by
    have := List.length_filter_le k (List.range i)
    rwa [List.length_range] at this
  rw [List.length_map] at hl
  by_cases hlt : i < n
  · refine .inr ⟨wk.go i H hlt hs, by omega, fun ys' H' => (n - (i + 1) < n - i ∧ i + 1 ≤ n ∧ Same H1 H' ∧ H' Da = some (.lst ys') ∧ ∃ fp, RepFs H' (((List.range (i + 1)).filter k).map d) ys' fp ∧ fp.Nodup ∧ Da ∉ fp ∧ ∀ b ∈ fp, H1 b = none), fun ys' H' ⟨q1, q2, q3, q4, q5⟩ => ⟨n - (i + 1), q1, rfl, q2, q3, q4, q5⟩, fun x H' hy => ?_⟩
    obtain ⟨s1, hp⟩ := wk.yld i H x H' hlt hs hy
    refine step i x H' _ _ hlt (hs.trans s1) hp (fun hk y H3 s3 hn3 => ?_) (fun hk H3 s3 => ?_)
    · have hD3 : H3 Da = some (.lst ys) := s3 _ _ (s1 _ _ hH)
      refine ⟨hD3, by omega, hlt, ?_, upd_same, ?_⟩
      · intro b o e
        rw [upd_ne (ne_of_none e hD)]
        exact s3 _ _ (s1 _ _ (hs _ _ e))
      · obtain ⟨fq, h1, h2, h3⟩ := hn3
        have keep : ∀ b ∈ fp, (upd H3 Da (.lst (ys ++ [y]))) b = H b := fun b hb => by
          obtain ⟨o, ho⟩ := RepFs.has _ hr b hb
          rw [upd_ne (show b ≠ Da from fun z => na (by rw [← z]; exact hb)), ho]
          exact s3 _ _ (s1 _ _ ho)
        have nDq : Da ∉ fq := fun z => by
          have := h3 Da z
          rw [s1 _ _ hH] at this; cases this
        have tk2 : Tups H3 (upd H3 Da (.lst (ys ++ [y]))) := tups_lst hD3
        have tk1 : Tups H (upd H3 Da (.lst (ys ++ [y]))) := ((s1.trans s3).tups).trans tk2
        have keep2 : ∀ b ∈ fq, (upd H3 Da (.lst (ys ++ [y]))) b = H3 b := fun b hb => by rw [upd_ne (show b ≠ Da from fun z => nDq (by rw [← z]; exact hb))]
        refine ⟨fp ++ fq, ?_, ?_, ?_, ?_⟩
        · have := (RepFs.frame tk1 _ keep hr).snoc (RepF.frame tk2 _ keep2 h1)
          rw [List.range_succ, List.filter_append, List.map_append, List.filter_cons, hk]
          exact this
        · refine List.nodup_append.mpr ⟨nd, h2, fun a ha b hb z => ?_⟩
          subst z
          obtain ⟨o, ho⟩ := RepFs.has _ hr a ha
          have := h3 a hb
          rw [s1 _ _ ho] at this; cases this
        · exact fun z => (List.mem_append.mp z).elim na nDq
        · intro b hb
          rcases List.mem_append.mp hb with z | z
          · exact hf b z
          · exact (hs.trans s1).free (h3 b z)
    · refine ⟨by omega, hlt, hs.trans (s1.trans s3), s3 _ _ (s1 _ _ hH), fp, ?_, nd, na, hf⟩
      rw [List.range_succ, List.filter_append, List.map_append, List.filter_cons, hk]
      simp only [Bool.false_eq_true, if_false, List.filter_nil, List.map_nil, List.append_nil]
      refine RepFs.frame (s1.trans s3).tups _ (fun b hb => ?_) hr
      obtain ⟨o, ho⟩ := RepFs.has _ hr b hb
      rw [ho]
      exact s3 _ _ (s1 _ _ ho)
  · have e : i = n := by omega
    subst e
    exact .inl ⟨wk.stop H hs, fin _ _ hs (New.lst hr nd hf hD na hH)⟩

/-! ### for, by a word; what it walks stays -/
theorem for_gen {J : It} {H1 : Hp} {n : Nat} {P : Nat → V → Hp → Prop} {g : TG} {tb : TS} {D : Ends} {σ : St} (wk : Goes J H1 n P) (Pv : Nat → St → Hp → Prop) (h0 : Pv 0 σ H1) (hl : ∀ i σ H, Pv i σ H → Same H1 H)
    (hs : ∀ i x σ H H', i < n → Pv i σ H → Same H H' → P i x H' → g x σ H' fun σ2 H2 => tb { D with nx := Pv (i + 1), ct := Pv (i + 1), bk := D.nx } σ2 H2) (hd : ∀ σ H, Pv n σ H → D.nx σ H) :
    ForGo J g tb D σ H1 := by
  refine ⟨fun i m σ H => m = n - i ∧ i ≤ n ∧ Pv i σ H, ⟨n, by simp, Nat.zero_le _, h0⟩, ?_⟩
  rintro i m σ H ⟨rfl, hi, p⟩
  have e := hl i σ H p
  by_cases hlt : i < n
  · refine .inr ⟨wk.go i H hlt e, Pv (i + 1), fun σ' H' p' => ⟨n - (i + 1), by omega, rfl, hlt, p'⟩, fun x H' y => ?_⟩
    obtain ⟨s1, hp⟩ := wk.yld i H x H' hlt e y
    exact hs i x σ H H' hlt p s1 hp
  · have e' : i = n := by omega
    subst e'
    exact .inl ⟨wk.stop H e, hd σ H p⟩
end L2

set_option Elab.async false
set_option linter.all false
set_option maxRecDepth 100000
namespace L2
open PySem PySem.Spec PyProof.Rows

/-! ### a def of the text, with all that a call of it wants -/
structure Fn (P : Program) (w : World) (K : PySem.W.Frag) (mg : Str → Option Value) (base : Heap) (x : Str) (ps : List Str) (k : Nat) (sp : Sp) : Prop where
  ex : ∃ f fd, FnOk P w K mg base CX0 k f fd ps sp ∧ Binds K fd ps [] ∧ PySem.W.keepIn K (.ref f) = true ∧ mg x = some (.ref f)
section
variable {X : Cx} {k j : Nat} {ps : List Str} {sp : Sp} {x : Str} {p pos : Pos} {e : Expr} {es : List Expr} {t : TA}
theorem pe_fn (G : Fn X.prog X.w X.K X.mg X.base x ps j sp) (hr : Room k X.A) (hg : Gl X x) (ha : PA X (e :: es) t) (hj : j ≤ k := by decide) (hdb : (x == ("__debug__" : Str)) = false := by decide)
    (he : starEach (e :: es) X.env = (false, eval e X.env) :: starEach es X.env := by rfl) (hpl : (backTo pos (starEach es X.env)).any (·.1) = false := by rfl) : PE X (.Call (.Name x p) (e :: es) [] pos) (tCall sp [] E0 t) := by
  obtain ⟨f, fd, F, hb, hk, hm⟩ := G.ex
  exact pe_call (F.mono hj) hr hg hm hk hb .nil pass0 ha hdb he hpl
theorem pe_fn0 (G : Fn X.prog X.w X.K X.mg X.base x ps j sp) (hr : Room k X.A) (hg : Gl X x) (hj : j ≤ k := by decide) (hdb : (x == ("__debug__" : Str)) = false := by decide) : PE X (.Call (.Name x p) [] [] pos) (tCall sp [] E0 tNil) := by
  obtain ⟨f, fd, F, hb, hk, hm⟩ := G.ex
  exact pe_call0 (F.mono hj) hr hg hm hk hb .nil pass0 hdb
end
theorem Fn.of {P : Program} {w : World} {K : PySem.W.Frag} {mg : Str → Option Value} {base : Heap} {x : Str} {st : Stmt} {f : Addr} {fd : FuncData} {N ps : List Str} {k : Nat} {sp : Sp} (F : Fun K x x st f fd) (S : FnScope N ps (defScope st)) (m : mg x = some (.ref f))
    (hb : ∀ (kV doc pm : Value) (an : Option Addr) (cdv ct : Value) (us : List Value), us.length = ps.length → bindArgs (PySem.W.fnOf x x (defArgs st) (defBody st) (defScope st) .none kV doc pm an cdv ct) ⟨us, []⟩ = pure (ps.zip us))
    (len : ∀ vs H Q E, sp vs H Q E → vs.length = ps.length)
    (hbody : ∀ (cdv : Value) (A : Around) (outer : List Env) (s : Shared) (H : Hp) (vs : List V) (Q : VK) (E : XK), Room k (A.deeper (envOfC x (defScope st) s.heap.objs.size f cdv)) → sp vs H Q E →
      ∃ t, PSs (cxOf CX0 P w K mg base N x (defScope st) f cdv A outer s H E).nox (defBody st) t ∧ t { nx := fun _ H' => Q .non H', rt := Q } (start N vs) H) : Fn P w K mg base x ps (k + 1) sp :=
  ⟨f, fd, F.ok S len hbody, F.binds hb, F.kp, m⟩

/-! ### operations by what comes -/
section
variable {X : Cx} {k : Nat}
def rPlus (K : PySem.W.Frag) : R2 := fun x y H Q => rI0 (fun i j => .int (i + j)) x y H Q ∨ rCat x y H Q ∨ rCatT K x y H Q
theorem op_plus : OpR X (binaryOp .Add) (rPlus X.K) := op_add.or (op_cat.or op_catT)
def rTimes : R2 := fun x y H Q => rI CMul (fun i j => .int (i * j)) x y H Q ∨ rRep x y H Q
theorem op_times : OpR X (binaryOp .Mult) rTimes := op_mul.or op_rep
def rEqA (K : PySem.W.Frag) : R2 := fun x y H Q => rEq x y H Q ∨ rEqD K false x y H Q
def rNeA (K : PySem.W.Frag) : R2 := fun x y H Q => rNe x y H Q ∨ rEqD K true x y H Q
theorem op_eqA (hr : Room k X.A) : OpR X (compareOp .Eq) (rEqA X.K) := op_eq.or (op_eqD hr)
theorem op_neA (hr : Room k X.A) : OpR X (compareOp .NotEq) (rNeA X.K) := op_ne.or (op_neD hr)
end

/-! ### calls of built-ins, named -/
def rLen (K : PySem.W.Frag) : List V → Hp → VK → Prop := fun xs H Q => ∃ p ys, xs = [.ref p] ∧ (SqL K H p ys ∨ SqT K H p ys) ∧ Q (.int ys.length) H
def rListOf (K : PySem.W.Frag) : List V → Hp → VK → Prop := fun xs H Q => ∃ p ys, xs = [.ref p] ∧ (SqL K H p ys ∨ SqT K H p ys) ∧ ∀ l, H l = none → Q (.ref l) (upd H l (.lst ys))
def rTupOf (K : PySem.W.Frag) : List V → Hp → VK → Prop := fun xs H Q => ∃ p ys, xs = [.ref p] ∧ ((SqL K H p ys ∧ ∀ l, H l = none → Q (.ref l) (upd H l (.tup ys))) ∨ (SqT K H p ys ∧ Q (.ref p) H))
def rIsi (K : PySem.W.Frag) : List V → Hp → VK → Prop := fun xs H Q => ∃ x c t b, xs = [x, .ty c] ∧ TyOf K H x t ∧ PySem.W.kitOne K t (.type c) = some b ∧ Q (.bl b) H
def rAll (K : PySem.W.Frag) : List V → Hp → VK → Prop := fun xs H Q => ∃ (p : Addr) (bs : List Bool), xs = [.ref p] ∧ SqL K H p (bs.map V.bl) ∧ Q (.bl (bs.all id)) H
def rAny (K : PySem.W.Frag) : List V → Hp → VK → Prop := fun xs H Q => ∃ (p : Addr) (bs : List Bool), xs = [.ref p] ∧ SqL K H p (bs.map V.bl) ∧ Q (.bl (bs.any id)) H
def rMax : List V → Hp → VK → Prop := fun xs H Q => ∃ i j, xs = [.int i, .int j] ∧ Q (.int (if j > i then j else i)) H
def rMin : List V → Hp → VK → Prop := fun xs H Q => ∃ i j, xs = [.int i, .int j] ∧ Q (.int (if j < i then j else i)) H
def rInt : List V → Hp → VK → Prop := fun xs H Q => (∃ i, xs = [.int i] ∧ Q (.int i) H) ∨ ∃ k, xs = [.bl k] ∧ Q (.int (if k then 1 else 0)) H
section
variable {X : Cx}
theorem c_len : CallR X (.builtin "len") (rLen X.K) := call_len_seq
theorem c_list : CallR X (.type "list") (rListOf X.K) := call_list_of
theorem c_tuple : CallR X (.type "tuple") (rTupOf X.K) := call_tuple_of
theorem c_isi : CallR X (.builtin "isinstance") (rIsi X.K) := call_isinst
theorem c_all (hc : X.calm = true) : CallR X (.builtin "all") (rAll X.K) := call_all hc
theorem c_any (hc : X.calm = true) : CallR X (.builtin "any") (rAny X.K) := call_any hc
theorem c_max (hc : X.calm = true) : CallR X (.builtin "max") rMax := call_max2 hc
theorem c_min (hc : X.calm = true) : CallR X (.builtin "min") rMin := call_min2 hc
theorem c_int : CallR X (.type "int") rInt := call_int1
end

/-! ### readings, from the front: one lemma a transformer -/
section
variable {K : PySem.W.Frag} {σ : St} {H : Hp} {Q : VK} {ta tb tc : TE} {D : Ends}
theorem i_var {i : Nat} {v : V} (h : σ[i]? = some (some v)) (q : Q v H) : tVar i σ H Q := ⟨v, h, q⟩
theorem i_c {v : V} (q : Q v H) : tC v σ H Q := q
theorem i_op {r : R2} (h : ta σ H fun x H1 => tb σ H1 fun y H2 => r x y H2 Q) : tOp r ta tb σ H Q := h
theorem i_un {r : V → Hp → VK → Prop} (h : ta σ H fun x H1 => r x H1 Q) : tUn r ta σ H Q := h
theorem i_rI0 {g : Int → Int → V} {i j : Int} (q : Q (g i j) H) : rI0 g (.int i) (.int j) H Q := ⟨i, j, rfl, rfl, q⟩
theorem i_rI {C : Int → Int → Prop} {g : Int → Int → V} {i j : Int} (c : C i j) (q : Q (g i j) H) : rI C g (.int i) (.int j) H Q := ⟨i, j, rfl, rfl, c, q⟩
theorem i_mod {i j : Int} (c : 0 < j) (q : Q (.int (i % j)) H) : rI (fun _ j => 0 < j) (fun i j => .int (i % j)) (.int i) (.int j) H Q := ⟨i, j, rfl, rfl, c, q⟩
theorem i_pow109 (q : Q (.int 1000000000) H) : rI CPow (fun i j => .int (i ^ j.toNat)) (.int 10) (.int 9) H Q := ⟨10, 9, rfl, rfl, ⟨by decide, by decide, by decide⟩, q⟩
theorem i_fdiv {i j : Int} (c : 0 < j) (c2 : j < 1073741824) (q : Q (.int (i / j)) H) : rI CDiv (fun i j => .int (i / j)) (.int i) (.int j) H Q := ⟨i, j, rfl, rfl, ⟨c, c2⟩, q⟩
theorem i_pow {i j : Int} (c : 0 ≤ j) (c2 : j ≤ 1000000) (c3 : i.natAbs < 2 ^ 64) (q : Q (.int (i ^ j.toNat)) H) : rI CPow (fun i j => .int (i ^ j.toNat)) (.int i) (.int j) H Q := ⟨i, j, rfl, rfl, ⟨c, c2, c3⟩, q⟩
theorem i_rU {g : Int → V} {i : Int} (q : Q (g i) H) : rU g (.int i) H Q := ⟨i, rfl, q⟩
theorem i_plusI {i j : Int} (q : Q (.int (i + j)) H) : rPlus K (.int i) (.int j) H Q := .inl ⟨i, j, rfl, rfl, q⟩
theorem i_plusL {a b : Addr} {xs ys : List V} (h1 : H a = some (.lst xs)) (h2 : H b = some (.lst ys)) (z : xs.length + ys.length ≤ sizeLine) (q : ∀ p, H p = none → Q (.ref p) (upd H p (.lst (xs ++ ys)))) : rPlus K (.ref a) (.ref b) H Q := .inr (.inl ⟨a, b, xs, ys, rfl, rfl, h1, h2, z, q⟩)
theorem i_timesI {i j : Int} (c : CMul i j) (q : Q (.int (i * j)) H) : rTimes (.int i) (.int j) H Q := .inl ⟨i, j, rfl, rfl, c, q⟩
theorem i_eqI {i j : Int} (q : Q (.bl (decide (i = j))) H) : rEqA K (.int i) (.int j) H Q := .inl ⟨rfl, by
  rw [show decide (V.int i = V.int j) = decide (i = j) by rw [decide_eq_decide]; exact ⟨fun z => by cases z; rfl, fun z => by rw [z]⟩]; exact q⟩
theorem i_neI {i j : Int} (q : Q (.bl (!decide (i = j))) H) : rNeA K (.int i) (.int j) H Q := .inl ⟨rfl, by
  rw [show decide (V.int i = V.int j) = decide (i = j) by rw [decide_eq_decide]; exact ⟨fun z => by cases z; rfl, fun z => by rw [z]⟩]; exact q⟩
theorem i_eqB {i j : Bool} (q : Q (.bl (decide (i = j))) H) : rEqA K (.bl i) (.bl j) H Q := .inl ⟨rfl, by
  rw [show decide (V.bl i = V.bl j) = decide (i = j) by rw [decide_eq_decide]; exact ⟨fun z => by cases z; rfl, fun z => by rw [z]⟩]; exact q⟩
theorem i_neB {i j : Bool} (q : Q (.bl (!decide (i = j))) H) : rNeA K (.bl i) (.bl j) H Q := .inl ⟨rfl, by
  rw [show decide (V.bl i = V.bl j) = decide (i = j) by rw [decide_eq_decide]; exact ⟨fun z => by cases z; rfl, fun z => by rw [z]⟩]; exact q⟩
theorem i_eqS {i j : Str} (q : Q (.bl (decide (i = j))) H) : rEqA K (.str i) (.str j) H Q := .inl ⟨rfl, by
  rw [show decide (V.str i = V.str j) = decide (i = j) by rw [decide_eq_decide]; exact ⟨fun z => by cases z; rfl, fun z => by rw [z]⟩]; exact q⟩
theorem i_eqD {a b : Addr} {d e : L2.D} (h1 : Rep K H d (.ref a)) (h2 : Rep K H e (.ref b)) (n : dep d ≤ 60) (q : Q (.bl (pyEq d e)) H) : rEqA K (.ref a) (.ref b) H Q := .inr ⟨a, b, d, e, rfl, rfl, h1, h2, n, q⟩
theorem i_neD {a b : Addr} {d e : L2.D} (h1 : Rep K H d (.ref a)) (h2 : Rep K H e (.ref b)) (n : dep d ≤ 60) (q : Q (.bl (!pyEq d e)) H) : rNeA K (.ref a) (.ref b) H Q := .inr ⟨a, b, d, e, rfl, rfl, h1, h2, n, q⟩
theorem i_test {Q : Bool → Hp → Prop} (h : ta σ H fun x H' => ∃ k, x = .bl k ∧ Q k H') : tTest ta σ H Q := h
theorem i_B {Q : Bool → Hp → Prop} (h : ta σ H fun x H' => ∃ k, x = .bl k ∧ Q k H') : tB ta σ H Q := h
theorem i_bl {P : Bool → Prop} {b : Bool} (h : P b) : ∃ k, V.bl b = .bl k ∧ P k := ⟨b, rfl, h⟩
theorem i_nil {Q : List V → Hp → Prop} (h : Q [] H) : tNil σ H Q := h
theorem i_cons {Q : List V → Hp → Prop} {tr : TA} (h : ta σ H fun x H1 => tr σ H1 fun xs H2 => Q (x :: xs) H2) : tCons ta tr σ H Q := h
theorem i_call {sp : Sp} {t : TA} (h : t σ H fun vs H1 => sp vs H1 Q E0) : tCall sp [] E0 t σ H Q := by
  have e : (fun (vs : List V) (H1 : Hp) => sp (vs ++ []) H1 Q E0) = fun vs H1 => sp vs H1 Q E0 := by funext vs H1; rw [List.append_nil]
  show t σ H fun vs H1 => sp (vs ++ []) H1 Q E0
  rw [e]; exact h
theorem i_CB {r : List V → Hp → VK → Prop} {t : TA} (h : t σ H fun vs H1 => r vs H1 Q) : tCB r t σ H Q := h
theorem i_lst {t : TA} (h : t σ H fun xs H1 => xs.length ≤ sizeLine ∧ ∀ p, H1 p = none → Q (.ref p) (upd H1 p (.lst xs))) : tLst t σ H Q := h
theorem i_tup {t : TA} (h : t σ H fun xs H1 => xs.length ≤ sizeLine ∧ ∀ p, H1 p = none → Q (.ref p) (upd H1 p (.tup xs))) : tTup t σ H Q := h
theorem i_seq {t u : TS} (h : t { D with nx := u D } σ H) : tSeq t u D σ H := h
theorem i_asg {g : TG} (h : ta σ H fun x H1 => g x σ H1 D.nx) : tAsg ta g D σ H := h
theorem i_gname {i : Nat} {v : V} {Q : St → Hp → Prop} (h : Q (σ.set i (some v)) H) : gName i v σ H Q := h
theorem i_ret (h : ta σ H D.rt) : tRet ta D σ H := h
theorem i_drop (h : ta σ H fun _ H1 => D.nx σ H1) : tDrop ta D σ H := h
theorem i_next (h : D.nx σ H) : tNext D σ H := h
theorem i_ifS {c : TT} {t u : TS} (h : c σ H fun b H1 => if b = true then t D σ H1 else u D σ H1) : tIfS c t u D σ H := h
theorem i_if {c : TT} (h : c σ H fun b H1 => if b = true then ta σ H1 Q else tb σ H1 Q) : tIf c ta tb σ H Q := h
theorem i_len {a : Addr} {xs : List V} (h : SqL K H a xs ∨ SqT K H a xs) (q : Q (.int xs.length) H) : rLen K [.ref a] H Q := ⟨a, xs, rfl, h, q⟩
theorem ix0 {α : Type} {x : α} {xs : List α} : ixN (x :: xs).length 0 = some 0 := by
  unfold ixN
  rw [if_pos (Int.le_refl 0), if_pos (by rw [List.length_cons]; omega)]
  rfl
theorem at_zero {α : Type} {x : α} {xs : List α} : atI (x :: xs) (0 : Int) = some x := atI_nat (j := 0) rfl
theorem i_ixL {a : Addr} {xs : List V} {i : Int} {v : V} (h : SqL K H a xs) (e : atI xs i = some v) (q : Q v H) : rIx K (.ref a) (.int i) H Q := .inl ⟨a, xs, i, v, rfl, rfl, h, e, q⟩
theorem i_ixT {a : Addr} {xs : List V} {i : Int} {v : V} (h : SqT K H a xs) (e : atI xs i = some v) (q : Q v H) : rIx K (.ref a) (.int i) H Q := .inr (.inl ⟨a, xs, i, v, rfl, rfl, h, e, q⟩)
end
section
variable {K : PySem.W.Frag} {σ : St} {H : Hp} {Q : VK} {ta tb tc : TE} {D : Ends}
theorem i_all {p : Addr} {bs : List Bool} (h : SqL K H p (bs.map V.bl)) (q : Q (.bl (bs.all id)) H) : rAll K [.ref p] H Q := ⟨p, bs, rfl, h, q⟩
theorem i_any {p : Addr} {bs : List Bool} (h : SqL K H p (bs.map V.bl)) (q : Q (.bl (bs.any id)) H) : rAny K [.ref p] H Q := ⟨p, bs, rfl, h, q⟩
theorem i_max {i j : Int} (q : Q (.int (if j > i then j else i)) H) : rMax [.int i, .int j] H Q := ⟨i, j, rfl, q⟩
theorem i_min {i j : Int} (q : Q (.int (if j < i then j else i)) H) : rMin [.int i, .int j] H Q := ⟨i, j, rfl, q⟩
theorem i_intB {b : Bool} (q : Q (.int (if b then 1 else 0)) H) : rInt [.bl b] H Q := .inr ⟨b, rfl, q⟩
theorem i_andV (h : ta σ H fun x H1 => ∃ c, x = .bl c ∧ if c = true then tb σ H1 Q else Q (.bl false) H1) : tAndV ta tb σ H Q := h
theorem i_orV (h : ta σ H fun x H1 => ∃ c, x = .bl c ∧ if c = true then Q (.bl true) H1 else tb σ H1 Q) : tOrV ta tb σ H Q := h
theorem i_notV (h : ta σ H fun x H1 => ∃ c, x = .bl c ∧ Q (.bl (!c)) H1) : tNotV ta σ H Q := h
theorem i_and {t u : TT} {Q : Bool → Hp → Prop} (h : t σ H fun c H1 => if c = true then u σ H1 Q else Q false H1) : tAnd t u σ H Q := h
theorem i_or {t u : TT} {Q : Bool → Hp → Prop} (h : t σ H fun c H1 => if c = true then Q true H1 else u σ H1 Q) : tOr t u σ H Q := h
theorem i_not {t : TT} {Q : Bool → Hp → Prop} (h : t σ H fun c H1 => Q (!c) H1) : tNot t σ H Q := h
theorem i_isi {x : V} {t : Value} {c : String} {b : Bool} (ty : TyOf K H x t) (e : PySem.W.kitOne K t (.type c) = some b) (q : Q (.bl b) H) :
    rIsi K [x, .ty c] H Q := ⟨x, c, t, b, rfl, ty, e, q⟩
theorem i_for {wi : TI} {g : TG} {tb : TS} (h : wi σ H fun J H1 => ForGo J g tb D σ H1) : tFor wi g tb D σ H := h
theorem i_comp {ms : List Bool} {wi : TI} {g : TG} {tt : TT} {te : TE} (h : wi σ H fun J H1 => CompGo J g tt te (maskσ ms σ) H1 Q) : tComp ms wi g tt te σ H Q := h
theorem i_ilist {tl : TE} {R : It → Hp → Prop} (h : tl σ H fun x H1 => ∃ a, x = .ref a ∧ (∃ xs, SqL K H1 a xs) ∧ R (Itl K a) H1) : iList K tl σ H R := h
theorem i_itup {tl : TE} {R : It → Hp → Prop} (h : tl σ H fun x H1 => ∃ a, x = .ref a ∧ (∃ xs, SqT K H1 a xs) ∧ R (Itt K a) H1) : iTup K tl σ H R := h
theorem i_zip {t : TA} {R : It → Hp → Prop} (h : t σ H fun vs H1 => ∃ a b, vs = [.ref a, .ref b] ∧ (∃ xs, SqL K H1 a xs) ∧ (∃ ys, SqL K H1 b ys) ∧ R (Itz K a b) H1) : iZip K t σ H R := h
theorem i_enum {t : TA} {R : It → Hp → Prop} (h : t σ H fun vs H1 => ∃ a xs, vs = [.ref a] ∧ H1 a = some (.lst xs) ∧ R (Itn K a) H1) : iEnum K t σ H R := h
theorem i_rev {t : TA} {R : It → Hp → Prop} (h : t σ H fun vs H1 => ∃ a xs, vs = [.ref a] ∧ SqL K H1 a xs ∧ R (Itv K a xs.length) H1) : iRev K t σ H R := h
theorem i_rng1 {t : TA} {R : It → Hp → Prop} (h : t σ H fun vs H1 => ∃ j : Int, vs = [.int j] ∧ -(2 ^ 62) ≤ j ∧ j < 2 ^ 62 ∧ R (Itr 0 j.toNat) H1) : iRng1 t σ H R := h
theorem i_rng1v {P : Int → Prop} {j : Int} (h1 : -(2 ^ 62) ≤ j) (h2 : j < 2 ^ 62) (h : P j) : ∃ k : Int, [V.int j] = [.int k] ∧ -(2 ^ 62) ≤ k ∧ k < 2 ^ 62 ∧ P k := ⟨j, rfl, h1, h2, h⟩
theorem i_sl {r : V → Option Int → Option Int → Hp → VK → Prop} {tl th : TO} (h : ta σ H fun x H1 => tl σ H1 fun l H2 => th σ H2 fun u H3 => r x l u H3 Q) : tSl r ta tl th σ H Q := h
theorem i_nopart {Q : Option Int → Hp → Prop} (h : Q none H) : tNoPart σ H Q := h
theorem i_part {Q : Option Int → Hp → Prop} (h : ta σ H fun x H1 => ∃ i, x = .int i ∧ Q (some i) H1) : tPart ta σ H Q := h
theorem i_parti {P : Int → Prop} {i : Int} (h : P i) : ∃ j, V.int i = .int j ∧ P j := ⟨i, rfl, h⟩
theorem i_par {i j : Nat} {t : TA} (h : t σ H fun vs H1 => ∃ v w, vs = [v, w] ∧ D.nx ((σ.set i (some v)).set j (some w)) H1) : tPar i j t D σ H := h
theorem i_parv {P : V → V → Prop} {v w : V} (h : P v w) : ∃ v' w', [v, w] = [v', w'] ∧ P v' w' := ⟨v, w, rfl, h⟩
theorem i_gsub {to ti : TE} {t : TSet} {v : V} {Q : St → Hp → Prop} (h : to σ H fun o H1 => ti σ H1 fun i H2 => t o i v H2 fun H3 => Q σ H3) : gSub to ti t v σ H Q := h
theorem i_setL {a : Addr} {xs : List V} {k : Int} {j : Nat} {v : V} {Q : Hp → Prop} (h : H a = some (.lst xs)) (e : ixN xs.length k = some j) (q : Q (upd H a (.lst (xs.set j v)))) : rSetL (.ref a) (.int k) v H Q := ⟨a, xs, k, j, rfl, rfl, h, e, q⟩
theorem i_listof {a : Addr} {ys : List V} (h : SqL K H a ys ∨ SqT K H a ys) (q : ∀ l, H l = none → Q (.ref l) (upd H l (.lst ys))) :
    rListOf K [.ref a] H Q := ⟨a, ys, rfl, h, q⟩
end
/-! ### the same, the written part by name (within a comprehension's block too) -/
section
variable {X : Cx} {k : Nat} {pos : Pos}
theorem k_plus (K : PySem.W.Frag) (hK : X.K = K := by rfl) : OpR X (binaryOp .Add) (rPlus K) := by subst hK; exact op_plus
theorem k_eq (K : PySem.W.Frag) (hr : Room k X.A) (hK : X.K = K := by rfl) : OpR X (compareOp .Eq) (rEqA K) := by subst hK; exact op_eqA hr
theorem k_ne (K : PySem.W.Frag) (hr : Room k X.A) (hK : X.K = K := by rfl) : OpR X (compareOp .NotEq) (rNeA K) := by subst hK; exact op_neA hr
theorem k_in (K : PySem.W.Frag) (hK : X.K = K := by rfl) : OpR X (compareOp .In) (rIn K false) := by subst hK; exact op_in_seq
theorem k_notin (K : PySem.W.Frag) (hK : X.K = K := by rfl) : OpR X (compareOp .NotIn) (rIn K true) := by subst hK; exact op_notIn_seq
theorem k_ix (K : PySem.W.Frag) (hK : X.K = K := by rfl) : IxR X (rIx K) := by subst hK; exact ix_seq
def rSl (K : PySem.W.Frag) : V → Option Int → Option Int → Hp → VK → Prop := fun x lo hi H Q => rSlL K x lo hi H Q ∨ rSlT K x lo hi H Q
theorem k_sl (K : PySem.W.Frag) (hK : X.K = K := by rfl) : SlR X (rSl K) := by subst hK; exact sl_list.or sl_tup
theorem k_len (K : PySem.W.Frag) (hK : X.K = K := by rfl) : CallR X (.builtin "len") (rLen K) := by subst hK; exact c_len
theorem k_list (K : PySem.W.Frag) (hK : X.K = K := by rfl) : CallR X (.type "list") (rListOf K) := by subst hK; exact c_list
theorem k_tuple (K : PySem.W.Frag) (hK : X.K = K := by rfl) : CallR X (.type "tuple") (rTupOf K) := by subst hK; exact c_tuple
theorem k_isi (K : PySem.W.Frag) (hK : X.K = K := by rfl) : CallR X (.builtin "isinstance") (rIsi K) := by subst hK; exact c_isi
theorem k_all (K : PySem.W.Frag) (hc : X.calm = true) (hK : X.K = K := by rfl) : CallR X (.builtin "all") (rAll K) := by subst hK; exact c_all hc
theorem k_any (K : PySem.W.Frag) (hc : X.calm = true) (hK : X.K = K := by rfl) : CallR X (.builtin "any") (rAny K) := by subst hK; exact c_any hc
theorem k_ilist (K : PySem.W.Frag) {tg l : Expr} {tl : TE} (hl : PE X l tl) (hK : X.K = K := by rfl) : PI X tg l (iList K tl) := by subst hK; exact pi_list hl
theorem k_itup (K : PySem.W.Frag) {tg l : Expr} {tl : TE} (hl : PE X l tl) (hK : X.K = K := by rfl) : PI X tg l (iTup K tl) := by subst hK; exact pi_tup hl
theorem k_izip (K : PySem.W.Frag) {elts : List Expr} {kx : Nat} {tpos : Pos} {a b : Expr} {ta : TA} {p : Pos} (hg : Gl X "zip") (hm : X.mg "zip" = none) (ha : PA X [a, b] ta) (hK : X.K = K := by rfl) (hs : starEach [a, b] X.env = [(false, eval a X.env), (false, eval b X.env)] := by rfl) (hs2 : starEach [b] X.env = [(false, eval b X.env)] := by rfl) :
    PI X (.Tuple elts kx tpos) (.Call (.Name "zip" p) [a, b] [] pos) (iZip K ta) := by subst hK; exact pi_zip hg hm ha hs hs2
theorem k_ienum (K : PySem.W.Frag) {elts : List Expr} {kx : Nat} {tpos : Pos} {a : Expr} {ta : TA} {p : Pos} (hg : Gl X "enumerate") (hm : X.mg "enumerate" = none) (ha : PA X [a] ta) (hK : X.K = K := by rfl) (hs : starEach [a] X.env = [(false, eval a X.env)] := by rfl) :
    PI X (.Tuple elts kx tpos) (.Call (.Name "enumerate" p) [a] [] pos) (iEnum K ta) := by subst hK; exact pi_enum hg hm ha hs
theorem k_irev (K : PySem.W.Frag) {tg a : Expr} {ta : TA} {p : Pos} (hg : Gl X "reversed") (hm : X.mg "reversed" = none) (ha : PA X [a] ta) (hK : X.K = K := by rfl) (hs : starEach [a] X.env = [(false, eval a X.env)] := by rfl) :
    PI X tg (.Call (.Name "reversed" p) [a] [] pos) (iRev K ta) := by subst hK; exact pi_rev hg hm ha hs
theorem k_gtup (K : PySem.W.Frag) {es : List Expr} {kk : Nat} {t : TGs} {n : Nat} (hc : X.calm = true) (h : PGs X es t) (hK : X.K = K := by rfl) (hn : (assignEach es X.env).length = n := by rfl) (hst : (assignEach es X.env).findIdx? (·.1) = none := by rfl) :
    PG X (.Tuple es kk pos) (gTup K n t) := by subst hK; exact pg_tup hc h hn hst
theorem k_fld (K : PySem.W.Frag) {e : Expr} {f : Str} {ta : TE} (he : PE X e ta) (hb : attributeBase e f X.env (eval e X.env) = eval e X.env) (hK : X.K = K := by rfl) : PE X (.Attribute e f pos) (tFld K ta f) := by subst hK; exact pe_fld he hb
end
theorem get_range {n : Nat} {f : Nat → D} {i : Nat} {d : D} (h : ((List.range n).map f)[i]? = some d) : d = f i := by
  rw [List.getElem?_map] at h
  obtain ⟨j, hj, rfl⟩ := Option.map_eq_some_iff.mp h
  have hl := (List.getElem?_eq_some_iff.mp hj).1
  rw [List.length_range] at hl
  have hi : i < n := hl
  rw [List.getElem?_range hi] at hj
  cases hj; rfl
theorem pe_gint {X : Cx} {x : Str} {i : Int} {pos : Pos} (hg : Gl X x) (hm : ∃ t, X.mg x = some (.int i t)) (hd : (x == ("__debug__" : Str)) = false := by decide) : PE X (.Name x pos) (tC (.int i)) := by
  obtain ⟨t, hm⟩ := hm
  exact pe_glob hg hm ⟨t, rfl⟩ hd
theorem iteNT {A B : Prop} (h : B) : if (!true) = true then A else B := iteF h
theorem iteNF {A B : Prop} (h : A) : if (!false) = true then A else B := iteT h
theorem small_le {n : Nat} (h : n ≤ 1000) : n ≤ sizeLine := Nat.le_of_lt (small1000 h)
theorem i_bm {K : PySem.W.Frag} {σ : St} {H : Hp} {Q : VK} {T : String} {r : V → List V → Hp → VK → Prop} {to : TE} {t : TA} (h : to σ H fun x H1 => tyV K T x H1 ∧ t σ H1 fun xs H2 => r x xs H2 Q) : tBM K T r to t σ H Q := h
theorem tyL {K : PySem.W.Frag} {H : Hp} {a : Addr} {xs : List V} (h : H a = some (.lst xs)) : tyV K "list" (.ref a) H := .inl ⟨rfl, _, SqL.of h⟩
theorem i_app {H : Hp} {Q : VK} {a : Addr} {xs : List V} {y : V} (h : H a = some (.lst xs)) (z : xs.length < sizeLine) (q : Q .non (upd H a (.lst (xs ++ [y])))) : rAppend (.ref a) [y] H Q := ⟨a, xs, y, rfl, rfl, h, z, q⟩
theorem RepFs.bls_eq {H : Hp} : ∀ {bs : List Bool} {vs : List V} {fp : List Addr}, RepFs H (bs.map D.bl) vs fp → vs = bs.map V.bl ∧ fp = []
  | [], _, _, h => by unfold List.map RepFs at h; exact h
  | n :: ns, _, _, h => by
    rw [List.map_cons] at h
    unfold RepFs at h
    obtain ⟨v, r, f, g, rfl, rfl, h1, h2⟩ := h
    unfold RepF at h1
    obtain ⟨rfl, rfl⟩ := h1
    obtain ⟨rfl, rfl⟩ := RepFs.bls_eq h2
    exact ⟨rfl, rfl⟩
theorem New.bls {H H' : Hp} {bs : List Bool} {v : V} (h : New H H' (.lst (bs.map D.bl)) v) : ∃ a, v = .ref a ∧ H a = none ∧ H' a = some (.lst (bs.map V.bl)) := by
  obtain ⟨fp, h1, h2, h3⟩ := h
  unfold RepF at h1
  obtain ⟨a, xs, r, e1, e2, e3, e4⟩ := h1
  obtain ⟨rfl, rfl⟩ := RepFs.bls_eq e4
  subst e2
  exact ⟨a, e1, h3 a List.mem_cons_self, e3⟩
theorem New.lst_out {H H' : Hp} {ds : List D} {v : V} (h : New H H' (.lst ds) v) : ∃ a vs fp, v = .ref a ∧ H a = none ∧ H' a = some (.lst vs) ∧ RepFs H' ds vs fp ∧ fp.Nodup ∧ a ∉ fp ∧ ∀ b ∈ fp, H b = none := by
  obtain ⟨fp, h1, h2, h3⟩ := h
  unfold RepF at h1
  obtain ⟨a, xs, r, e1, e2, e3, e4⟩ := h1
  subst e2
  exact ⟨a, xs, r, e1, h3 a List.mem_cons_self, e3, e4, (List.nodup_cons.mp h2).2, (List.nodup_cons.mp h2).1, fun b m => h3 b (List.mem_cons_of_mem _ m)⟩
theorem for_rng {lo : Int} {n : Nat} {g : TG} {tb : TS} {D : Ends} {σ : St} {H : Hp} (Pv : Nat → St → Hp → Prop) (h0 : Pv 0 σ H)
    (hs : ∀ i σ H, i < n → Pv i σ H → g (.int (lo + i)) σ H fun σ2 H2 => tb { D with nx := Pv (i + 1), ct := Pv (i + 1), bk := D.nx } σ2 H2) (hd : ∀ σ H, Pv n σ H → D.nx σ H) : ForGo (Itr lo n) g tb D σ H := for_range Pv h0 hs hd
theorem for_lst {K : PySem.W.Frag} {a : Addr} {xs : List V} {g : TG} {tb : TS} {D : Ends} {σ : St} {H : Hp} (Pv : Nat → St → Hp → Prop) (h0 : Pv 0 σ H) (hl : ∀ i σ H, i ≤ xs.length → Pv i σ H → SqL K H a xs)
    (hs : ∀ i x σ H, xs[i]? = some x → Pv i σ H → g x σ H fun σ2 H2 => tb { D with nx := Pv (i + 1), ct := Pv (i + 1), bk := D.nx } σ2 H2) (hd : ∀ σ H, Pv xs.length σ H → D.nx σ H) : ForGo (Itl K a) g tb D σ H := for_list Pv h0 hl hs hd
theorem deps_le {n : Nat} : ∀ {ds : List D}, (∀ d ∈ ds, dep d ≤ n) → deps ds ≤ n
  | [], _ => by unfold deps; exact Nat.zero_le _
  | d :: ds, h => by
    unfold deps
    exact Nat.max_le.mpr ⟨h d List.mem_cons_self, deps_le fun e he => h e (List.mem_cons_of_mem _ he)⟩
theorem dep_lines (ls : List (List Int)) : dep (.lst (ls.map nums)) ≤ 2 := by
  unfold dep
  refine Nat.succ_le_succ (deps_le fun d hd => ?_)
  obtain ⟨l, _, rfl⟩ := List.mem_map.mp hd
  exact dep_ints l
theorem eq_same {K : PySem.W.Frag} {H : Hp} {Q : VK} {a b : Addr} {d : D} (h1 : Rep K H d (.ref a)) (h2 : Rep K H d (.ref b)) (n : dep d ≤ 60) (q : Q (.bl true) H) : rEqA K (.ref a) (.ref b) H Q := i_eqD h1 h2 n (by rw [pyEq_refl]; exact q)
theorem ne_same {K : PySem.W.Frag} {H : Hp} {Q : VK} {a b : Addr} {d : D} (h1 : Rep K H d (.ref a)) (h2 : Rep K H d (.ref b)) (n : dep d ≤ 60) (q : Q (.bl false) H) : rNeA K (.ref a) (.ref b) H Q := i_neD h1 h2 n (by rw [pyEq_refl]; exact q)
theorem ite_tl2 {c A : Prop} [Decidable c] {NX : St → Hp → Prop} {σ2 : St} {H2 : Hp} (M : St → Hp → Prop) (m2 : ¬ c → M σ2 H2) (h1 : c → (∀ σ H, M σ H → NX σ H) → A) (tail : ∀ σ H, M σ H → NX σ H) : if c then A else NX σ2 H2 := by
  by_cases h : c
  · rw [if_pos h]; exact h1 h tail
  · rw [if_neg h]; exact tail _ _ (m2 h)
theorem boot_len : bootBuiltins "len" = some (.builtin "len") := PySem.boot_len
theorem boot_list : bootBuiltins "list" = some (.type "list") := by decide +kernel
theorem boot_tuple : bootBuiltins "tuple" = some (.type "tuple") := by decide +kernel
theorem boot_int : bootBuiltins "int" = some (.type "int") := by decide +kernel
theorem boot_bool : bootBuiltins "bool" = some (.type "bool") := by decide +kernel
theorem boot_isinstance : bootBuiltins "isinstance" = some (.builtin "isinstance") := by decide +kernel
theorem boot_all : bootBuiltins "all" = some (.builtin "all") := by decide +kernel
theorem boot_any : bootBuiltins "any" = some (.builtin "any") := by decide +kernel
theorem boot_max : bootBuiltins "max" = some (.builtin "max") := by decide +kernel
theorem boot_min : bootBuiltins "min" = some (.builtin "min") := by decide +kernel
theorem kit_same {K : PySem.W.Frag} {t : Value} : PySem.W.kitOne K t t = some true := by unfold PySem.W.kitOne; simp
theorem kit_int_bool {K : PySem.W.Frag} : PySem.W.kitOne K (.type "int") (.type "bool") = some false := by rfl
theorem kit_bool_int {K : PySem.W.Frag} : PySem.W.kitOne K (.type "bool") (.type "int") = some true := by rfl
end L2

set_option Elab.async false
set_option linter.all false
set_option maxRecDepth 100000
namespace L2
open PySem PySem.Spec PyProof.Rows
/-! ### a class of the text, made by its __init__ -/
structure Mkr (P : Program) (w : World) (K : PySem.W.Frag) (mg : Str → Option Value) (base : Heap) (x : Str) (C : Addr) (ps : List Str) (k : Nat) (sp : Sp) : Prop where
  ex : ∃ f fd, Mk K C f ∧ FnOk P w K mg base CX0 k f fd ps sp ∧ Binds K fd ps [] ∧ mg x = some (.ref C)
section
variable {X : Cx} {k j : Nat} {C : Addr} {ps : List Str} {sp : Sp} {x : Str} {p pos : Pos} {e : Expr} {es : List Expr} {t : TA}
theorem pe_mk (G : Mkr X.prog X.w X.K X.mg X.base x C ps j sp) (hr : Room k X.A) (hg : Gl X x) (ha : PA X (e :: es) t) (hj : j + 1 ≤ k := by decide) (hdb : (x == ("__debug__" : Str)) = false := by decide)
    (he : starEach (e :: es) X.env = (false, eval e X.env) :: starEach es X.env := by rfl) (hpl : (backTo pos (starEach es X.env)).any (·.1) = false := by rfl) : PE X (.Call (.Name x p) (e :: es) [] pos) (tMake C sp [] E0 t) := by
  obtain ⟨f, fd, M, F, hb, hm⟩ := G.ex
  exact pe_make M F (hr.mono hj) hg hm hb .nil pass0 ha hdb he hpl
theorem i_make {σ : St} {H : Hp} {Q : VK} (h : t σ H fun vs H1 => ∀ y dx, H1 y = none → H1 dx = none → dx ≠ y → sp (.ref y :: vs) (upd (upd H1 dx (.own y)) y (.ins C dx [])) (fun v H2 => v = .non ∧ Q (.ref y) H2) E0) : tMake C sp [] E0 t σ H Q := by
  have e : (fun (vs : List V) (H1 : Hp) => ∀ y dx, H1 y = none → H1 dx = none → dx ≠ y → sp (.ref y :: (vs ++ [])) (upd (upd H1 dx (.own y)) y (.ins C dx [])) (fun v H2 => v = .non ∧ Q (.ref y) H2) E0)
      = fun vs H1 => ∀ y dx, H1 y = none → H1 dx = none → dx ≠ y → sp (.ref y :: vs) (upd (upd H1 dx (.own y)) y (.ins C dx [])) (fun v H2 => v = .non ∧ Q (.ref y) H2) E0 := by funext vs H1; rw [List.append_nil]
  show t σ H fun vs H1 => ∀ y dx, H1 y = none → H1 dx = none → dx ≠ y → sp (.ref y :: (vs ++ [])) (upd (upd H1 dx (.own y)) y (.ins C dx [])) (fun v H2 => v = .non ∧ Q (.ref y) H2) E0
  rw [e]; exact h
end
section
variable {K : PySem.W.Frag} {σ : St} {H : Hp} {Q : VK} {ta tv : TE} {D : Ends} {f : Str}
theorem i_fld (h : ta σ H fun x H1 => ∃ a C dx fs v, x = .ref a ∧ H1 a = some (.ins C dx fs) ∧ Cls K C ∧ NoAttr K C f ∧ fs.lookup f = some v ∧ Q v H1) : tFld K ta f σ H Q := h
theorem i_sfld (h : tv σ H fun y H1 => ta σ H1 fun x H2 => ∃ a C dx fs, x = .ref a ∧ H2 a = some (.ins C dx fs) ∧ Cls K C ∧ NoAttr K C f ∧ fs.length < 1000 ∧ D.nx σ (upd H2 a (.ins C dx (putF f y fs)))) : sFld K ta tv f D σ H := h
end
theorem i_chain {r r' : R2} {σ : St} {H : Hp} {Q : VK} {ta tb tc : TE} (h : ta σ H fun x H1 => tb σ H1 fun y H2 => r x y H2 fun z H3 => ∃ k, z = .bl k ∧ if k = true then tc σ H3 fun w H4 => r' y w H4 Q else Q (.bl false) H3) : tChain r r' ta tb tc σ H Q := h
/-! ### parts of a tuple -/
theorem RepFs.nil {H : Hp} : RepFs H [] [] [] := by unfold RepFs; exact ⟨rfl, rfl⟩
theorem RepFs.cint {H : Hp} {i : Int} {ds : List D} {xs : List V} {fp : List Addr} (h : RepFs H ds xs fp) : RepFs H (.int i :: ds) (.int i :: xs) fp := by
  unfold RepFs; exact ⟨_, _, [], fp, rfl, rfl, by unfold RepF; exact ⟨rfl, rfl⟩, h⟩
theorem RepFs.cstr {H : Hp} {i : Str} {ds : List D} {xs : List V} {fp : List Addr} (h : RepFs H ds xs fp) : RepFs H (.str i :: ds) (.str i :: xs) fp := by
  unfold RepFs; exact ⟨_, _, [], fp, rfl, rfl, by unfold RepF; exact ⟨rfl, rfl⟩, h⟩
theorem RepFs.cany {H : Hp} {d : D} {v : V} {f : List Addr} {ds : List D} {xs : List V} {fp : List Addr} (q : RepF H d v f) (h : RepFs H ds xs fp) : RepFs H (d :: ds) (v :: xs) (f ++ fp) := by
  unfold RepFs; exact ⟨_, _, f, fp, rfl, rfl, q, h⟩
theorem RepF.line {H : Hp} {a : Addr} {ns : List Int} (h : H a = some (.lst (ns.map V.int))) : RepF H (nums ns) (.ref a) [a] := by
  unfold RepF; exact ⟨a, _, [], rfl, rfl, h, RepFs.ints⟩
theorem RepF.pair {H : Hp} {t : Addr} {i j : Int} (h : H t = some (.tup [.int i, .int j])) : RepF H (.tup [.int i, .int j]) (.ref t) [] := by
  unfold RepF; exact ⟨t, _, rfl, h, RepFs.nil.cint.cint⟩
/-- a list of lines: its items are the addresses -/
theorem RepFs.lines {H : Hp} : ∀ {ls : List (List Int)} {vs : List V} {fp : List Addr}, RepFs H (ls.map nums) vs fp → vs = fp.map V.ref ∧ fp.length = ls.length ∧ ∀ (i : Nat) (a : Addr), fp[i]? = some a → ∃ l, ls[i]? = some l ∧ H a = some (.lst (l.map V.int))
  | [], _, _, h => by
    rw [List.map_nil] at h; unfold RepFs at h
    obtain ⟨rfl, rfl⟩ := h
    exact ⟨rfl, rfl, fun i a e => by simp at e⟩
  | l :: ls, _, _, h => by
    rw [List.map_cons] at h; unfold RepFs at h
    obtain ⟨v, r, f, g, rfl, rfl, h1, h2⟩ := h
    obtain ⟨rfl, e2, e3⟩ := RepFs.lines h2
    unfold RepF at h1
    obtain ⟨a, xs, r, rfl, rfl, e4, e5⟩ := h1
    obtain ⟨rfl, rfl⟩ := RepFs.ints_eq e5
    refine ⟨rfl, by simp [e2], fun i b e => ?_⟩
    cases i with
    | zero => simp at e; subst e; exact ⟨l, rfl, e4⟩
    | succ i => exact e3 i b (by simpa using e)
/-- kit facts of isinstance against list -/
theorem kit_int_list {K : PySem.W.Frag} : PySem.W.kitOne K (.type "int") (.type "list") = some false := by rfl
theorem kit_str_list {K : PySem.W.Frag} : PySem.W.kitOne K (.type "str") (.type "list") = some false := by rfl
theorem kit_tuple_list {K : PySem.W.Frag} : PySem.W.kitOne K (.type "tuple") (.type "list") = some false := by rfl
theorem i_tupofL {K : PySem.W.Frag} {H : Hp} {Q : VK} {a : Addr} {ys : List V} (h : SqL K H a ys) (q : ∀ l, H l = none → Q (.ref l) (upd H l (.tup ys))) : rTupOf K [.ref a] H Q := ⟨a, ys, rfl, .inl ⟨h, q⟩⟩
theorem i_in {K : PySem.W.Frag} {H : Hp} {Q : VK} {neg : Bool} {x : V} {a : Addr} {xs : List V} (h : SqL K H a xs ∨ SqT K H a xs) (f1 : flatV x = true) (f2 : xs.all flatV = true) (q : Q (.bl (if neg then !inV x xs else inV x xs)) H) : rIn K neg x (.ref a) H Q := ⟨a, xs, rfl, h, f1, f2, q⟩
theorem pe_gtup {X : Cx} {x : Str} {a : Addr} {pos : Pos} (hg : Gl X x) (hm : X.mg x = some (.ref a)) (hd : (x == ("__debug__" : Str)) = false := by decide) : PE X (.Name x pos) (tC (.ref a)) := pe_glob hg hm rfl hd
/-! ### several new things, one after another -/
def News (H H' : Hp) (ds : List D) (vs : List V) : Prop := ∃ fp, RepFs H' ds vs fp ∧ fp.Nodup ∧ ∀ a ∈ fp, H a = none
theorem News.nil {H H' : Hp} : News H H' [] [] := ⟨[], RepFs.nil, List.nodup_nil, fun _ m => by cases m⟩
theorem News.same {H H1 H2 : Hp} {ds : List D} {vs : List V} (e : Same H1 H2) (h : News H H1 ds vs) : News H H2 ds vs := by
  obtain ⟨fp, h1, h2, h3⟩ := h
  refine ⟨fp, RepFs.frame e.tups ds (fun a m => ?_) h1, h2, h3⟩
  obtain ⟨o, ho⟩ := RepFs.has ds h1 a m
  rw [ho, e a o ho]
theorem News.snoc {H H1 H2 : Hp} {ds : List D} {vs : List V} {d : D} {v : V} (h : News H H1 ds vs) (e : Same H H1) (e2 : Same H1 H2) (n : New H1 H2 d v) : News H H2 (ds ++ [d]) (vs ++ [v]) := by
  obtain ⟨fp, h1, h2, h3⟩ := h
  obtain ⟨fq, g1, g2, g3⟩ := n
  have keep : ∀ a ∈ fp, H2 a = H1 a := fun a m => by
    obtain ⟨o, ho⟩ := RepFs.has ds h1 a m
    rw [ho, e2 a o ho]
  refine ⟨fp ++ fq, (RepFs.frame e2.tups ds keep h1).snoc g1, List.nodup_append.mpr ⟨h2, g2, fun a ha b hb z => ?_⟩, fun a m => ?_⟩
  · subst z
    obtain ⟨o, ho⟩ := RepFs.has ds h1 a ha
    have := g3 a hb
    rw [ho] at this; cases this
  · rcases List.mem_append.mp m with m | m
    · exact h3 a m
    · exact e.free (g3 a m)
theorem News.lst {H H1 : Hp} {ds : List D} {vs : List V} {a : Addr} (h : News H H1 ds vs) (e : Same H H1) (ha : H1 a = none) : New H (upd H1 a (.lst vs)) (.lst ds) (.ref a) := by
  obtain ⟨fp, h1, h2, h3⟩ := h
  have s := same_upd ha (.lst vs)
  refine New.lst (RepFs.frame s.tups ds (fun b m => ?_) h1) h2 h3 (e.free ha) (fun m => ?_) upd_same
  · obtain ⟨o, ho⟩ := RepFs.has ds h1 b m
    rw [ho, s b o ho]
  · obtain ⟨o, ho⟩ := RepFs.has ds h1 a m
    rw [ha] at ho; cases ho
theorem New.news {H H' : Hp} {ds : List D} {v : V} (h : New H H' (.lst ds) v) : ∃ a vs, v = .ref a ∧ H a = none ∧ H' a = some (.lst vs) ∧ News H H' ds vs := by
  obtain ⟨a, vs, fp, e1, e2, e3, e4, e5, _, e6⟩ := New.lst_out h
  exact ⟨a, vs, e1, e2, e3, fp, e4, e5, e6⟩
end L2

set_option Elab.async false
set_option linter.all false
set_option maxRecDepth 100000
namespace L2
open PySem PySem.Spec PyProof.Rows
/-! ### lists and tuples stay, instances may change -/
def seqO : HO → Bool
  | .lst _ => true
  | .tup _ => true
  | .frz _ _ => true
  | _ => false
def Sq (H H' : Hp) : Prop := ∀ b o, H b = some o → seqO o = true → H' b = some o
theorem Same.sq {H H' : Hp} (e : Same H H') : Sq H H' := fun b o h _ => e b o h
theorem Sq.refl (H : Hp) : Sq H H := fun _ _ h _ => h
theorem Sq.trans {H H1 H2 : Hp} (a : Sq H H1) (b : Sq H1 H2) : Sq H H2 := fun c o h q => b c o (a c o h q) q
theorem sq_upd {H : Hp} {p : Addr} {o u : HO} (h : H p = some u) (n : seqO u = false) : Sq H (upd H p o) := fun b w e q => by
  rw [upd_ne (fun z => by rw [z, h] at e; cases e; rw [n] at q; cases q)]; exact e
theorem Sq.tups {H H' : Hp} (e : Sq H H') : Tups H H' := fun _ _ h => e _ _ h rfl
theorem Sq.lst {K : PySem.W.Frag} {H H' : Hp} {a : Addr} {xs : List V} (e : Sq H H') (h : SqL K H a xs) : SqL K H' a xs := by
  rcases h with (h | ⟨o, h⟩) | h
  · exact .inl (.inl (e _ _ h rfl))
  · exact .inl (.inr ⟨o, e _ _ h rfl⟩)
  · exact .inr h
theorem Sq.tup {K : PySem.W.Frag} {H H' : Hp} {a : Addr} {xs : List V} (e : Sq H H') (h : SqT K H a xs) : SqT K H' a xs := by
  rcases h with (h | ⟨o, h⟩) | h
  · exact .inl (.inl (e _ _ h rfl))
  · exact .inl (.inr ⟨o, e _ _ h rfl⟩)
  · exact .inr h
mutual
theorem Rep.sq {K : PySem.W.Frag} {H H' : Hp} (e : Sq H H') : ∀ (d : D) {v : V}, Rep K H d v → Rep K H' d v
  | .non, _, h => by unfold Rep at *; exact h
  | .bl _, _, h => by unfold Rep at *; exact h
  | .int _, _, h => by unfold Rep at *; exact h
  | .str _, _, h => by unfold Rep at *; exact h
  | .lst ds, _, h => by
    unfold Rep at *
    obtain ⟨a, xs, h1, h2, h3⟩ := h
    exact ⟨a, xs, h1, e.lst h2, Reps.sq e ds h3⟩
  | .tup ds, _, h => by
    unfold Rep at *
    obtain ⟨a, xs, h1, h2, h3⟩ := h
    exact ⟨a, xs, h1, e.tup h2, Reps.sq e ds h3⟩
theorem Reps.sq {K : PySem.W.Frag} {H H' : Hp} (e : Sq H H') : ∀ (ds : List D) {vs : List V}, Reps K H ds vs → Reps K H' ds vs
  | [], _, h => by unfold Reps at *; exact h
  | d :: ds, _, h => by
    unfold Reps at *
    obtain ⟨v, r, h1, h2, h3⟩ := h
    exact ⟨v, r, h1, Rep.sq e d h2, Reps.sq e ds h3⟩
end
mutual
theorem RepF.sq {H H' : Hp} (e : Sq H H') : ∀ (d : D) {v : V} {fp : List Addr}, RepF H d v fp → RepF H' d v fp
  | .non, _, _, h => by unfold RepF at *; exact h
  | .bl _, _, _, h => by unfold RepF at *; exact h
  | .int _, _, _, h => by unfold RepF at *; exact h
  | .str _, _, _, h => by unfold RepF at *; exact h
  | .lst ds, _, _, h => by
    unfold RepF at *
    obtain ⟨a, xs, r, h1, h0, h2, h3⟩ := h
    exact ⟨a, xs, r, h1, h0, e _ _ h2 rfl, RepFs.sq e ds h3⟩
  | .tup ds, _, _, h => by
    unfold RepF at *
    obtain ⟨a, xs, h1, h2, h3⟩ := h
    exact ⟨a, xs, h1, e _ _ h2 rfl, RepFs.sq e ds h3⟩
theorem RepFs.sq {H H' : Hp} (e : Sq H H') : ∀ (ds : List D) {vs : List V} {fp : List Addr}, RepFs H ds vs fp → RepFs H' ds vs fp
  | [], _, _, h => by unfold RepFs at *; exact h
  | d :: ds, _, _, h => by
    unfold RepFs at *
    obtain ⟨v, r, f, g, h1, h0, h2, h3⟩ := h
    exact ⟨v, r, f, g, h1, h0, RepF.sq e d h2, RepFs.sq e ds h3⟩
end
def Free (H H' : Hp) : Prop := ∀ a, H' a = none → H a = none
theorem Same.fr {H H' : Hp} (e : Same H H') : Free H H' := fun _ h => e.free h
theorem Free.trans {H H1 H2 : Hp} (a : Free H H1) (b : Free H1 H2) : Free H H2 := fun c h => a c (b c h)
theorem free_upd {H : Hp} {p : Addr} {o : HO} : Free H (upd H p o) := fun a h => by
  by_cases e : a = p
  · subst e; rw [upd_same] at h; cases h
  · rw [upd_ne e] at h; exact h
theorem News.sq {H H1 H2 : Hp} {ds : List D} {vs : List V} (e : Sq H1 H2) (h : News H H1 ds vs) : News H H2 ds vs := by
  obtain ⟨fp, h1, h2, h3⟩ := h
  exact ⟨fp, RepFs.sq e ds h1, h2, h3⟩
theorem New.sq {H H1 H2 : Hp} {d : D} {v : V} (e : Sq H1 H2) (h : New H H1 d v) : New H H2 d v := by
  obtain ⟨fp, h1, h2, h3⟩ := h
  exact ⟨fp, RepF.sq e d h1, h2, h3⟩
theorem New.fr {H0 H H' : Hp} {d : D} {v : V} (e : Free H0 H) (h : New H H' d v) : New H0 H' d v := by
  obtain ⟨fp, h1, h2, h3⟩ := h
  exact ⟨fp, h1, h2, fun a m => e a (h3 a m)⟩
theorem News.snoc' {H H1 H2 : Hp} {ds : List D} {vs : List V} {d : D} {v : V} (h : News H H1 ds vs) (e : Free H H1) (e2 : Same H1 H2) (n : New H1 H2 d v) : News H H2 (ds ++ [d]) (vs ++ [v]) := by
  obtain ⟨fp, h1, h2, h3⟩ := h
  obtain ⟨fq, g1, g2, g3⟩ := n
  refine ⟨fp ++ fq, (RepFs.sq e2.sq ds h1).snoc g1, List.nodup_append.mpr ⟨h2, g2, fun a ha b hb z => ?_⟩, fun a m => ?_⟩
  · subst z
    obtain ⟨o, ho⟩ := RepFs.has ds h1 a ha
    have := g3 a hb
    rw [ho] at this; cases this
  · rcases List.mem_append.mp m with m | m
    · exact h3 a m
    · exact e a (g3 a m)
theorem News.reps {K : PySem.W.Frag} {H H' : Hp} {ds : List D} {vs : List V} (h : News H H' ds vs) : Reps K H' ds vs := let ⟨_, h, _⟩ := h; RepFs.reps ds h

/-! ### the parts of a deed -/
def Part (H : Hp) (d : D) (x : V) : Prop := (∃ i, d = .int i ∧ x = .int i) ∨ (∃ s, d = .str s ∧ x = .str s) ∨ (∃ b l, d = nums l ∧ x = .ref b ∧ H b = some (.lst (l.map V.int))) ∨ ∃ b i j, d = .tup [.int i, .int j] ∧ x = .ref b ∧ H b = some (.tup [.int i, .int j])
def DeedRep (H : Hp) (d : D) (v : V) : Prop := ∃ t xs ds, d = .tup ds ∧ v = .ref t ∧ H t = some (.tup xs) ∧ ds.length = xs.length ∧ ds.length ≤ 8 ∧ ∀ (i : Nat) dd x, ds[i]? = some dd → xs[i]? = some x → Part H dd x
theorem Part.sq {H H' : Hp} (e : Sq H H') {d : D} {x : V} (h : Part H d x) : Part H' d x := by
  rcases h with h | h | ⟨b, l, h1, h2, h3⟩ | ⟨b, i, j, h1, h2, h3⟩
  · exact .inl h
  · exact .inr (.inl h)
  · exact .inr (.inr (.inl ⟨b, l, h1, h2, e _ _ h3 rfl⟩))
  · exact .inr (.inr (.inr ⟨b, i, j, h1, h2, e _ _ h3 rfl⟩))
theorem DeedRep.sq {H H' : Hp} (e : Sq H H') {d : D} {v : V} (h : DeedRep H d v) : DeedRep H' d v := by
  obtain ⟨t, xs, ds, h1, h2, h3, h4, h5, h6⟩ := h
  exact ⟨t, xs, ds, h1, h2, e _ _ h3 rfl, h4, h5, fun i dd x e1 e2 => (h6 i dd x e1 e2).sq e⟩
/-- what a part may be -/
def Simple (d : D) : Prop := (∃ i, d = .int i) ∨ (∃ s, d = .str s) ∨ (∃ l, l.length = 9 ∧ d = nums l) ∨ ∃ i j, d = .tup [.int i, .int j]
theorem part_of {H : Hp} {d : D} {v : V} {fp : List Addr} (s : Simple d) (h : RepF H d v fp) : Part H d v := by
  rcases s with ⟨i, rfl⟩ | ⟨i, rfl⟩ | ⟨l, _, rfl⟩ | ⟨i, j, rfl⟩
  · unfold RepF at h; exact .inl ⟨i, rfl, h.1⟩
  · unfold RepF at h; exact .inr (.inl ⟨i, rfl, h.1⟩)
  · unfold RepF at h
    obtain ⟨a, xs, r, h1, _, h2, h3⟩ := h
    obtain ⟨rfl, _⟩ := RepFs.ints_eq h3
    exact .inr (.inr (.inl ⟨a, l, rfl, h1, h2⟩))
  · unfold RepF at h
    obtain ⟨a, xs, h1, h2, h3⟩ := h
    have q := RepFs.ints_eq (ns := [i, j]) h3
    rw [q.1] at h2
    exact .inr (.inr (.inr ⟨a, i, j, rfl, h1, h2⟩))
theorem parts_of {H : Hp} : ∀ {ds : List D} {xs : List V} {fp : List Addr}, (∀ d ∈ ds, Simple d) → RepFs H ds xs fp → ∀ (i : Nat) dd x, ds[i]? = some dd → xs[i]? = some x → Part H dd x
  | [], _, _, _, _, i, dd, x, e, _ => by simp at e
  | d :: ds, _, _, s, h, i, dd, x, e1, e2 => by
    unfold RepFs at h
    obtain ⟨v, r, f, g, rfl, _, h1, h2⟩ := h
    cases i with
    | zero => simp at e1 e2; subst e1; subst e2; exact part_of (s d List.mem_cons_self) h1
    | succ i => exact parts_of (fun c hc => s c (List.mem_cons_of_mem _ hc)) h2 i dd x (by simpa using e1) (by simpa using e2)
/-- a deed: a short tuple of such parts -/
def Deed (d : D) : Prop := ∃ ds, d = .tup ds ∧ ds.length ≤ 8 ∧ ∀ c ∈ ds, Simple c
theorem deed_of {H : Hp} {d : D} {v : V} {fp : List Addr} (s : Deed d) (h : RepF H d v fp) : DeedRep H d v := by
  obtain ⟨ds, rfl, h8, hs⟩ := s
  unfold RepF at h
  obtain ⟨a, xs, h1, h2, h3⟩ := h
  exact ⟨a, xs, ds, rfl, h1, h2, h3.length, h8, parts_of hs h3⟩
/-! ### a list that is filled, item by item, with new things -/
def Acc (H : Hp) (da : Addr) (H2 : Hp) (ds : List D) (vs : List V) : Prop := ∃ fp, H2 da = some (.lst vs) ∧ RepFs H2 ds vs fp ∧ fp.Nodup ∧ da ∉ fp ∧ ∀ b ∈ fp, H b = none
theorem Acc.start {H H2 : Hp} {da : Addr} (h : H2 da = some (.lst [])) : Acc H da H2 [] [] := ⟨[], h, RepFs.nil, List.nodup_nil, by simp, fun _ m => by cases m⟩
theorem Acc.app {H H2 H3 : Hp} {da : Addr} {ds : List D} {vs : List V} {d : D} {v : V} (a : Acc H da H2 ds vs) (f : Free H H2) (s : Same H2 H3) (n : New H2 H3 d v) : Acc H da (upd H3 da (.lst (vs ++ [v]))) (ds ++ [d]) (vs ++ [v]) := by
  obtain ⟨fp, h1, h2, h3, h4, h5⟩ := a
  obtain ⟨fq, g1, g2, g3⟩ := n
  have hd3 := s _ _ h1
  have tk := tups_lst (o := .lst (vs ++ [v])) hd3
  have ndq : da ∉ fq := fun m => by have := g3 da m; rw [h1] at this; cases this
  have k1 : ∀ b ∈ fp, (upd H3 da (.lst (vs ++ [v]))) b = H2 b := fun b hb => by
    obtain ⟨o, ho⟩ := RepFs.has ds h2 b hb
    rw [upd_ne (show b ≠ da from fun z => h4 (by rw [← z]; exact hb)), ho]
    exact s _ _ ho
  have k2 : ∀ b ∈ fq, (upd H3 da (.lst (vs ++ [v]))) b = H3 b := fun b hb => by rw [upd_ne (show b ≠ da from fun z => ndq (by rw [← z]; exact hb))]
  refine ⟨fp ++ fq, upd_same, (RepFs.frame (s.tups.trans tk) ds k1 h2).snoc (RepF.frame tk d k2 g1), List.nodup_append.mpr ⟨h3, g2, fun a ha b hb z => ?_⟩, fun m => (List.mem_append.mp m).elim h4 ndq, fun b m => ?_⟩
  · subst z
    obtain ⟨o, ho⟩ := RepFs.has ds h2 a ha
    have := g3 a hb
    rw [ho] at this; cases this
  · rcases List.mem_append.mp m with m | m
    · exact h5 b m
    · exact f b (g3 b m)
theorem Acc.new {H H2 : Hp} {da : Addr} {ds : List D} {vs : List V} (a : Acc H da H2 ds vs) (h : H da = none) : New H H2 (.lst ds) (.ref da) := by
  obtain ⟨fp, h1, h2, h3, h4, h5⟩ := a
  exact New.lst h2 h3 h5 h h4 h1
theorem Acc.same {H H2 H3 : Hp} {da : Addr} {ds : List D} {vs : List V} (a : Acc H da H2 ds vs) (s : Same H2 H3) : Acc H da H3 ds vs := by
  obtain ⟨fp, h1, h2, h3, h4, h5⟩ := a
  exact ⟨fp, s _ _ h1, RepFs.sq s.sq ds h2, h3, h4, h5⟩

/-! ### lines that are changed in place -/
def is9 (H : Hp) (b : Addr) : Prop := ∃ l : List Int, l.length = 9 ∧ H b = some (.lst (l.map V.int))
structure Mt (S : Addr → Prop) (Hs H : Hp) : Prop where
  off : ∀ b o, ¬ S b → Hs b = some o → H b = some o
  on : ∀ b, S b → is9 H b
theorem Mt.set {S : Addr → Prop} {Hs H : Hp} (m : Mt S Hs H) {b : Addr} (hb : S b) {l : List Int} (hl : l.length = 9) (x : Int) : Mt S Hs (upd H b (.lst ((l.map V.int).set 0 (.int x)))) where
  off := fun c o hc e => by rw [upd_ne (fun z => hc (by rw [z]; exact hb))]; exact m.off c o hc e
  on := fun c hc => by
    by_cases e : c = b
    · subst e
      refine ⟨l.set 0 x, by rw [List.length_set]; exact hl, ?_⟩
      rw [upd_same, List.map_set]
    · obtain ⟨l', h1, h2⟩ := m.on c hc
      exact ⟨l', h1, by rw [upd_ne e]; exact h2⟩
theorem Mt.same {S : Addr → Prop} {Hs H H' : Hp} (m : Mt S Hs H) (s : Same H H') : Mt S Hs H' where
  off := fun c o hc e => s _ _ (m.off c o hc e)
  on := fun c hc => by
    obtain ⟨l', h1, h2⟩ := m.on c hc
    exact ⟨l', h1, s _ _ h2⟩
theorem not9_tup {H : Hp} {b : Addr} {xs : List V} (h : H b = some (.tup xs)) : ¬ is9 H b := fun ⟨l, _, e⟩ => by rw [h] at e; cases e
theorem not9_ref {H : Hp} {b : Addr} {xs : List V} (h : H b = some (.lst xs)) (hx : ∀ x ∈ xs, ∀ i, x ≠ .int i) : ¬ is9 H b := fun ⟨l, hl, e⟩ => by
  rw [h] at e
  cases e
  cases l with
  | nil => simp at hl
  | cons i r => exact hx (.int i) (by simp) i rfl
/-- what is younger than H0 is as it was -/
def Young (H0 H H' : Hp) : Prop := ∀ b o, H0 b = none → H b = some o → H' b = some o
theorem News.young {H0 H H' : Hp} {ds : List D} {vs : List V} (y : Young H0 H H') (t : Tups H H') (n : News H0 H ds vs) : News H0 H' ds vs := by
  obtain ⟨fp, h1, h2, h3⟩ := n
  refine ⟨fp, RepFs.frame t ds (fun a m => ?_) h1, h2, h3⟩
  obtain ⟨o, ho⟩ := RepFs.has ds h1 a m
  rw [ho, y a o (h3 a m) ho]
theorem New.young {H0 H H' : Hp} {d : D} {v : V} (y : Young H0 H H') (t : Tups H H') (n : New H0 H d v) : New H0 H' d v := by
  obtain ⟨fp, h1, h2, h3⟩ := n
  refine ⟨fp, RepF.frame t d (fun a m => ?_) h1, h2, h3⟩
  obtain ⟨o, ho⟩ := RepF.has d h1 a m
  rw [ho, y a o (h3 a m) ho]
theorem Mt.young {S : Addr → Prop} {H0 Hs H : Hp} (m : Mt S Hs H) (h : ∀ b, S b → H0 b ≠ none) : Young H0 Hs H := fun b o e1 e2 => m.off b o (fun hs => h b hs e1) e2
theorem Mt.tups {S : Addr → Prop} {Hs H : Hp} (m : Mt S Hs H) (h : ∀ b, S b → is9 Hs b) : Tups Hs H := fun b xs e => m.off b _ (fun hs => not9_tup e (h b hs)) e
/-- the lines within a list of data -/
theorem lines_in {H : Hp} : ∀ {ds : List D} {xs : List V} {fp : List Addr}, (∀ d ∈ ds, Simple d) → RepFs H ds xs fp → ∀ x ∈ xs, (∃ i, x = .int i) ∨ (∃ s, x = .str s) ∨ (∃ b, x = .ref b ∧ is9 H b ∧ b ∈ fp) ∨ ∃ b ys, x = .ref b ∧ H b = some (.tup ys)
  | [], _, _, _, h, x, m => by unfold RepFs at h; rw [h.1] at m; cases m
  | d :: ds, _, _, s, h, x, m => by
    unfold RepFs at h
    obtain ⟨v, r, f, g, rfl, rfl, h1, h2⟩ := h
    rcases List.mem_cons.mp m with m | m
    · subst m
      rcases s d List.mem_cons_self with ⟨i, rfl⟩ | ⟨i, rfl⟩ | ⟨l, hl, rfl⟩ | ⟨i, j, rfl⟩
      · unfold RepF at h1; exact .inl ⟨i, h1.1⟩
      · unfold RepF at h1; exact .inr (.inl ⟨i, h1.1⟩)
      · unfold RepF at h1
        obtain ⟨a, ys, r', e1, e2, e3, e4⟩ := h1
        obtain ⟨rfl, _⟩ := RepFs.ints_eq e4
        exact .inr (.inr (.inl ⟨a, e1, ⟨l, hl, e3⟩, by rw [e2]; simp⟩))
      · unfold RepF at h1
        obtain ⟨a, ys, e1, e2, e3⟩ := h1
        exact .inr (.inr (.inr ⟨a, ys, e1, e2⟩))
    · rcases lines_in (fun c hc => s c (List.mem_cons_of_mem _ hc)) h2 x m with z | z | ⟨b, z1, z2, z3⟩ | z
      · exact .inl z
      · exact .inr (.inl z)
      · exact .inr (.inr (.inl ⟨b, z1, z2, List.mem_append_right _ z3⟩))
      · exact .inr (.inr (.inr z))
theorem nine_in {H : Hp} {ls : List (List Int)} {vs : List V} {fp : List Addr} (h9 : ∀ l ∈ ls, l.length = 9) (h : RepFs H (ls.map nums) vs fp) : ∀ x ∈ vs, ∃ b, x = .ref b ∧ is9 H b ∧ b ∈ fp := fun x m => by
  obtain ⟨rfl, hl, hg⟩ := RepFs.lines h
  obtain ⟨b, hb, rfl⟩ := List.mem_map.mp m
  obtain ⟨i, hi, rfl⟩ := List.getElem_of_mem hb
  obtain ⟨l, e1, e2⟩ := hg i fp[i] (by simp)
  exact ⟨_, rfl, ⟨l, h9 l (List.mem_of_getElem? e1), e2⟩, List.getElem_mem hi⟩
theorem is9.cons {H : Hp} {b : Addr} (h : is9 H b) : ∃ (x : Int) (r : List Int), r.length = 8 ∧ H b = some (.lst ((x :: r).map V.int)) := by
  obtain ⟨l, hl, e⟩ := h
  cases l with
  | nil => simp at hl
  | cons x r => exact ⟨x, r, by simpa using hl, e⟩
theorem is9.same {H H' : Hp} {b : Addr} (s : Same H H') (h : is9 H b) : is9 H' b := by
  obtain ⟨l, hl, e⟩ := h
  exact ⟨l, hl, s _ _ e⟩
theorem for_tp {K : PySem.W.Frag} {a : Addr} {xs : List V} {g : TG} {tb : TS} {D : Ends} {σ : St} {H : Hp} (Pv : Nat → St → Hp → Prop) (h0 : Pv 0 σ H) (hl : ∀ i σ H, i ≤ xs.length → Pv i σ H → SqT K H a xs)
    (hs : ∀ i x σ H, xs[i]? = some x → Pv i σ H → g x σ H fun σ2 H2 => tb { D with nx := Pv (i + 1), ct := Pv (i + 1), bk := D.nx } σ2 H2) (hd : ∀ σ H, Pv xs.length σ H → D.nx σ H) : ForGo (Itt K a) g tb D σ H := for_tup Pv h0 hl hs hd
/-- a list of lines, by addresses -/
def LinesList (H : Hp) (x : V) : Prop := ∃ c ys, x = .ref c ∧ H c = some (.lst ys) ∧ ∀ z ∈ ys, ∃ b, z = .ref b ∧ is9 H b
theorem LinesList.same {H H' : Hp} {x : V} (s : Same H H') (h : LinesList H x) : LinesList H' x := by
  obtain ⟨c, ys, h1, h2, h3⟩ := h
  exact ⟨c, ys, h1, s _ _ h2, fun z hz => by obtain ⟨b, e1, e2⟩ := h3 z hz; exact ⟨b, e1, e2.same s⟩⟩
theorem LinesList.of {H : Hp} {ls : List (List Int)} {x : V} {fp : List Addr} (h9 : ∀ l ∈ ls, l.length = 9) (h : RepF H (.lst (ls.map nums)) x fp) : LinesList H x := by
  unfold RepF at h
  obtain ⟨c, ys, r, e1, _, e3, e4⟩ := h
  exact ⟨c, ys, e1, e3, fun z hz => by obtain ⟨b, q1, q2, _⟩ := nine_in h9 e4 z hz; exact ⟨b, q1, q2⟩⟩
theorem repfs4 {H : Hp} {d1 d2 d3 d4 : D} {vs : List V} {fp : List Addr} (h : RepFs H [d1, d2, d3, d4] vs fp) : ∃ x1 x2 x3 x4 f1 f2 f3 f4, vs = [x1, x2, x3, x4] ∧ RepF H d1 x1 f1 ∧ RepF H d2 x2 f2 ∧ RepF H d3 x3 f3 ∧ RepF H d4 x4 f4 := by
  unfold RepFs at h
  obtain ⟨x1, _, f1, _, rfl, _, h1, h⟩ := h
  unfold RepFs at h
  obtain ⟨x2, _, f2, _, rfl, _, h2, h⟩ := h
  unfold RepFs at h
  obtain ⟨x3, _, f3, _, rfl, _, h3, h⟩ := h
  unfold RepFs at h
  obtain ⟨x4, _, f4, _, rfl, _, h4, h⟩ := h
  unfold RepFs at h
  obtain ⟨rfl, _⟩ := h
  exact ⟨x1, x2, x3, x4, f1, f2, f3, f4, rfl, h1, h2, h3, h4⟩
theorem RepF.lst_out {H : Hp} {ds : List D} {x : V} {fp : List Addr} (h : RepF H (.lst ds) x fp) : ∃ b xs r, x = .ref b ∧ H b = some (.lst xs) ∧ RepFs H ds xs r := by
  unfold RepF at h
  obtain ⟨b, xs, r, e1, _, e3, e4⟩ := h
  exact ⟨b, xs, r, e1, e3, e4⟩
theorem RepFs.mem {H : Hp} : ∀ {ds : List D} {xs : List V} {fp : List Addr}, RepFs H ds xs fp → ∀ x ∈ xs, ∃ d ∈ ds, ∃ f, RepF H d x f
  | [], _, _, h, x, m => by unfold RepFs at h; rw [h.1] at m; cases m
  | d :: ds, _, _, h, x, m => by
    unfold RepFs at h
    obtain ⟨v, r, f, g, rfl, _, h1, h2⟩ := h
    rcases List.mem_cons.mp m with m | m
    · subst m; exact ⟨d, List.mem_cons_self, f, h1⟩
    · obtain ⟨e, he, q⟩ := RepFs.mem h2 x m
      exact ⟨e, List.mem_cons_of_mem _ he, q⟩
theorem dep_simple {d : D} (s : Simple d) : dep d ≤ 1 := by
  rcases s with ⟨i, rfl⟩ | ⟨i, rfl⟩ | ⟨l, _, rfl⟩ | ⟨i, j, rfl⟩
  · unfold dep; omega
  · unfold dep; omega
  · exact dep_ints l
  · unfold dep deps dep deps dep deps; decide
theorem dep_deed {d : D} (s : Deed d) : dep d ≤ 2 := by
  obtain ⟨ds, rfl, _, h⟩ := s
  unfold dep
  exact Nat.succ_le_succ (deps_le fun c hc => dep_simple (h c hc))
theorem RepFs.item {H : Hp} : ∀ {ds : List D} {xs : List V} {fp : List Addr}, RepFs H ds xs fp → ∀ (i : Nat) d x, ds[i]? = some d → xs[i]? = some x → ∃ f, RepF H d x f
  | [], _, _, _, i, d, x, e, _ => by simp at e
  | c :: ds, _, _, h, i, d, x, e1, e2 => by
    unfold RepFs at h
    obtain ⟨v, r, f, g, rfl, _, h1, h2⟩ := h
    cases i with
    | zero => simp at e1 e2; subst e1; subst e2; exact ⟨f, h1⟩
    | succ i => exact RepFs.item h2 i d x (by simpa using e1) (by simpa using e2)
theorem i_andB {b : Bool} {X Y : Prop} (h1 : b = true → X) (h2 : b = false → Y) : ∃ c, V.bl b = .bl c ∧ (if c = true then X else Y) := by
  cases b with
  | true => exact ⟨true, rfl, iteT (h1 rfl)⟩
  | false => exact ⟨false, rfl, iteF (h2 rfl)⟩
theorem i_ite {b : Bool} {X Y : Prop} (h1 : b = true → X) (h2 : b = false → Y) : (if b = true then X else Y) := by
  cases b with
  | true => exact iteT (h1 rfl)
  | false => exact iteF (h2 rfl)
theorem i_catT {K : PySem.W.Frag} {H : Hp} {Q : VK} {a b : Addr} {xs ys : List V} (h1 : SqT K H a xs) (h2 : SqT K H b ys) (nx : xs ≠ []) (ny : ys ≠ []) (z : xs.length + ys.length ≤ sizeLine) (q : ∀ p, H p = none → Q (.ref p) (upd H p (.tup (xs ++ ys)))) : rPlus K (.ref a) (.ref b) H Q :=
  .inr (.inr ⟨a, b, xs, ys, rfl, rfl, h1, h2, nx, z, fun e => absurd e ny, fun _ => q⟩)
theorem rep_tup {K : PySem.W.Frag} {H : Hp} {ds : List D} {v : V} (h : Rep K H (.tup ds) v) : ∃ a xs, v = .ref a ∧ SqT K H a xs ∧ Reps K H ds xs := by unfold Rep at h; exact h
end L2

set_option Elab.async false
set_option linter.all false
set_option maxRecDepth 100000
namespace L2
open PySem PySem.Spec PyProof.Rows PySem.W
/-! ### repr of data trees -/
mutual
def toPy : D → PyData
  | .non => .none
  | .bl b => .bool b
  | .int i => .int i
  | .str x => .str x
  | .lst ds => .list (toPys ds)
  | .tup ds => .tuple (toPys ds)
def toPys : List D → List PyData
  | [] => []
  | d :: ds => toPy d :: toPys ds
end
/-- a bound of the shown text, and what it asks -/
def intMost : Nat := 10 ^ 30
mutual
def cost : D → Nat
  | .non => 4
  | .bl _ => 5
  | .int _ => 32
  | .str x => (reprText x).length
  | .lst ds => costs ds + 3
  | .tup ds => costs ds + 3
def costs : List D → Nat
  | [] => 0
  | d :: ds => cost d + 2 + costs ds
end
mutual
def Slim : D → Prop
  | .int i => i.natAbs < intMost
  | .lst ds => Slims ds
  | .tup ds => Slims ds
  | .non => True
  | .bl _ => True
  | .str _ => True
def Slims : List D → Prop
  | [] => True
  | d :: ds => Slim d ∧ Slims ds
end
theorem slims_of : ∀ {ds : List D}, (∀ d ∈ ds, Slim d) → Slims ds
  | [], _ => by unfold Slims; trivial
  | d :: ds, h => by unfold Slims; exact ⟨h d List.mem_cons_self, slims_of fun c m => h c (List.mem_cons_of_mem _ m)⟩
theorem costs_le {c : Nat} : ∀ {ds : List D}, (∀ d ∈ ds, cost d ≤ c) → costs ds ≤ ds.length * (c + 2)
  | [], _ => by unfold costs; omega
  | d :: ds, h => by
    unfold costs
    have h1 := h d List.mem_cons_self
    have h2 := costs_le (c := c) (ds := ds) fun x m => h x (List.mem_cons_of_mem _ m)
    have e : (d :: ds).length * (c + 2) = ds.length * (c + 2) + (c + 2) := by rw [List.length_cons, Nat.succ_mul]
    omega
mutual
theorem py_depth : ∀ d : D, (toPy d).depth = dep d
  | .non => by unfold toPy dep; rfl
  | .bl _ => by unfold toPy dep; rfl
  | .int _ => by unfold toPy dep; rfl
  | .str _ => by unfold toPy dep; rfl
  | .lst ds => by unfold toPy dep PyData.depth; rw [py_depths ds]
  | .tup ds => by unfold toPy dep PyData.depth; rw [py_depths ds]
theorem py_depths : ∀ ds : List D, PyData.depthAll (toPys ds) = deps ds
  | [] => by unfold toPys deps; rfl
  | d :: ds => by unfold toPys deps PyData.depthAll; rw [py_depth d, py_depths ds]
end
mutual
theorem py_nodict : ∀ d : D, (toPy d).hasDict = false
  | .non => by unfold toPy; rfl
  | .bl _ => by unfold toPy; rfl
  | .int _ => by unfold toPy; rfl
  | .str _ => by unfold toPy; rfl
  | .lst ds => by unfold toPy PyData.hasDict; exact py_nodicts ds
  | .tup ds => by unfold toPy PyData.hasDict; exact py_nodicts ds
theorem py_nodicts : ∀ ds : List D, PyData.hasDictAll (toPys ds) = false
  | [] => by unfold toPys; rfl
  | d :: ds => by unfold toPys PyData.hasDictAll; rw [py_nodict d, py_nodicts ds]; rfl
end
theorem log2_most {i : Int} (h : i.natAbs < intMost) : i.natAbs.log2 < 1920 := by
  by_cases z : i.natAbs = 0
  · rw [z]; decide
  · refine (Nat.log2_lt z).mpr (Nat.lt_of_lt_of_le h ?_)
    unfold intMost
    exact Nat.le_trans (by decide : 10 ^ 30 ≤ 2 ^ 100) (Nat.pow_le_pow_right (n := 2) (by decide) (by decide : 100 ≤ 1920))
mutual
theorem py_show : ∀ d : D, Slim d → (toPy d).showable = true
  | .non, _ => by unfold toPy; rfl
  | .bl _, _ => by unfold toPy; rfl
  | .int i, h => by unfold Slim at h; unfold toPy PyData.showable; exact decide_eq_true (log2_most h)
  | .str _, _ => by unfold toPy; rfl
  | .lst ds, h => by unfold Slim at h; unfold toPy PyData.showable; exact py_shows ds h
  | .tup ds, h => by unfold Slim at h; unfold toPy PyData.showable; exact py_shows ds h
theorem py_shows : ∀ ds : List D, Slims ds → PyData.showableAll (toPys ds) = true
  | [], _ => by unfold toPys; rfl
  | d :: ds, h => by unfold Slims at h; unfold toPys PyData.showableAll; rw [py_show d h.1, py_shows ds h.2]; rfl
end
section
variable {X : Cx} {pins : List (Addr × Obj)} {σ : St} {H : Hp} {s : Shared}
mutual
theorem Rep.reads (I : Inv X pins σ H s) : ∀ (d : D) {v : V} {u : Value}, Rep X.K H d v → RelV v u → ∃ as, Reads s.heap u (toPy d) as
  | .non, _, _, h, r => by unfold Rep at h; subst h; cases r; unfold toPy; exact ⟨_, .none⟩
  | .bl b, _, _, h, r => by unfold Rep at h; subst h; cases r; unfold toPy; exact ⟨_, .bool b⟩
  | .int i, _, _, h, r => by unfold Rep at h; subst h; obtain ⟨t, rfl⟩ := r; unfold toPy; exact ⟨_, .int i t⟩
  | .str x, _, _, h, r => by unfold Rep at h; subst h; obtain ⟨t, rfl⟩ := r; unfold toPy; exact ⟨_, .str x t⟩
  | .lst ds, _, _, h, r => by
    unfold Rep at h
    obtain ⟨a, xs, rfl, h1, h2⟩ := h
    cases r
    obtain ⟨its, rv, p, _⟩ := I.list h1
    obtain ⟨o, ho, hc, n, hd⟩ := p.isList
    obtain ⟨as, ra⟩ := Reps.reads I ds h2 rv
    unfold toPy
    exact ⟨_, .list ho hc hd ra⟩
  | .tup ds, _, _, h, r => by
    unfold Rep at h
    obtain ⟨a, xs, rfl, h1, h2⟩ := h
    cases r
    obtain ⟨its, rv, p, _⟩ := I.tuple h1
    obtain ⟨o, ho, hc, n, hd⟩ := p
    obtain ⟨as, ra⟩ := Reps.reads I ds h2 rv
    unfold toPy
    exact ⟨_, .tuple ho hc hd ra⟩
theorem Reps.reads (I : Inv X pins σ H s) : ∀ (ds : List D) {vs : List V} {us : List Value}, Reps X.K H ds vs → Vals vs us → ∃ as, ReadsAll s.heap us (toPys ds) as
  | [], _, _, h, r => by unfold Reps at h; subst h; cases r; unfold toPys; exact ⟨_, .nil⟩
  | d :: ds, _, _, h, r => by
    unfold Reps at h
    obtain ⟨v, rr, rfl, h1, h2⟩ := h
    cases r with
    | cons r1 r2 =>
      obtain ⟨as, ra⟩ := Rep.reads I d h1 r1
      obtain ⟨bs, rb⟩ := Reps.reads I ds h2 r2
      unfold toPys
      exact ⟨_, .cons ra rb⟩
end
end
def shownD (d : D) : Str := (toPy d).shown
def rRepr (K : PySem.W.Frag) : List V → Hp → VK → Prop := fun xs H Q => ∃ a d, xs = [.ref a] ∧ Rep K H d (.ref a) ∧ dep d ≤ 60 ∧ Slim d ∧ cost d ≤ 1000000 ∧ Q (.str (shownD d)) H
theorem million : 1000000 ≤ sizeLine := by decide
theorem intText_len {i : Int} (h : i.natAbs < intMost) : (Str.ofString (toString i)).length ≤ 32 := by
  have e := int_text_length_le10 (k := 30) (by decide) h
  rw [PySem.ofString_length]; omega
mutual
theorem shown_le : ∀ d : D, Slim d → (toPy d).shown.length ≤ cost d
  | .non, _ => by unfold toPy cost PyData.shown; decide
  | .bl b, _ => by unfold toPy cost PyData.shown; cases b <;> decide
  | .int i, h => by unfold Slim at h; unfold toPy cost PyData.shown; exact intText_len h
  | .str _, _ => by unfold toPy cost PyData.shown; exact Nat.le_refl _
  | .lst ds, h => by
    unfold Slim at h; unfold toPy cost PyData.shown
    have := listText_len_le (PyData.shownAll (toPys ds))
    have := shown_les ds h
    omega
  | .tup ds, h => by
    unfold Slim at h; unfold toPy cost PyData.shown
    have := tupleText_len_le (PyData.shownAll (toPys ds))
    have := shown_les ds h
    omega
theorem shown_les : ∀ ds : List D, Slims ds → ((PyData.shownAll (toPys ds)).map (·.length)).sum + 2 * (PyData.shownAll (toPys ds)).length ≤ costs ds
  | [], _ => by unfold toPys costs PyData.shownAll; simp
  | d :: ds, h => by
    unfold Slims at h; unfold toPys costs PyData.shownAll
    have h1 := shown_le d h.1
    have h2 := shown_les ds h.2
    simp only [List.map_cons, List.sum_cons, List.length_cons]
    omega
end
theorem call_reprD {X : Cx} {k : Nat} (hr : Room k X.A) : CallR X (.builtin "repr") (rRepr X.K) := by
  intro pins s σ H xs us Q I r h
  obtain ⟨a, d, rfl, hd, hn, hs, hc, q⟩ := h
  obtain ⟨u, rfl, ru⟩ := vals1 r
  cases ru
  obtain ⟨as, rd⟩ := Rep.reads I d hd (u := .ref a) rfl
  refine repr_of_reads' rd (py_show d hs) (fun z => by rw [py_nodict] at z; cases z) hr.gd (by rw [py_depth]; have := hr.units; omega) (fun _ _ e => e) (fun h' u tk hk => ⟨.str (shownD d), H, I.un (h' := h') (t' := tk) (Un.kept hk) (I.hok.kept hk), ⟨u, rfl⟩, q⟩)
    (Nat.le_trans (shown_le d hs) (Nat.le_trans hc million))
end L2

set_option Elab.async false
set_option linter.all false
set_option maxRecDepth 100000
namespace L2
open PySem PySem.Spec PyProof.Rows PySem.W
/-! ### names, = a list of that length -/
section
variable {prog : Program} {w : World} {A : Around} {E : Value → Shared → Prop}
theorem draw_list {it t : Addr} {items : Array Value} (hne : t ≠ it) : ∀ (n i : Nat) (s : Shared) (Q : List Value → Shared → Prop), s.heap.IsListIter it t i → s.heap.IsList t items → i + n ≤ items.size →
    (∀ h', h'.IsListIter it t (i + n) → Heap.SameBut it s.heap h' → Q ((items.toList.drop i).take n) { s with heap := h' }) → wpAny (model prog w) A (draw (.ref it) n) Q E s
  | 0, i, s, Q, hit, _, _, hQ => by
    show wpAny _ _ (pure []) Q E s
    exact wpAny_pure (by simpa using hQ s.heap hit (Heap.SameBut.refl ..))
  | n + 1, i, s, Q, hit, ht, hle, hQ => by
    have hlt : i < items.size := by omega
    show wpAny _ _ (pyNext (.ref it) >>= _) Q E s
    refine wpAny_bind (wpAny_pyNext_list_item hit ht (x := items[i]) (by simp [hlt]) fun h₁ hit₁ hs₁ => ?_)
    have ht₁ : h₁.IsList t items := by obtain ⟨o, ho, r⟩ := ht; exact ⟨o, (hs₁.2 t hne).trans ho, r⟩
    refine wpAny_bind (wpAny_holding (draw_list hne n (i + 1) _ _ hit₁ ht₁ (by omega) fun h₂ hit₂ hs₂ => wpAny_pure ?_))
    have hd : items.toList.drop i = items[i] :: items.toList.drop (i + 1) := by simp [List.drop_eq_getElem_cons, hlt]
    have := hQ h₂ (by rw [show i + (n + 1) = i + 1 + n by omega]; exact hit₂) (hs₁.trans hs₂)
    rw [hd, List.take_succ_cons] at this
    exact this
theorem unpackItems_list {s : Shared} {t : Addr} {items : Array Value} {Q : List Value → Shared → Prop} (hh : A.handled = none) (ht : s.heap.IsList t items)
    (hQ : ∀ h', Heap.ExtBut s.heap.objs.size s.heap h' → Q items.toList { s with heap := h' }) : wpAny (model prog w) A (unpackItems (.ref t) items.size none) Q E s := by
  have hlt : t ≠ s.heap.objs.size := by obtain ⟨o, ho, _⟩ := ht; exact Nat.ne_of_lt (Heap.lt_size ho)
  have htp : (s.heap.push { cls := .type "list_iterator", data := .fields #[.ref t, .int 0 0] }).IsList t items := by obtain ⟨o, ho, r⟩ := ht; exact ⟨o, Heap.get?_push_of_some _ ho, r⟩
  unfold unpackItems
  refine wpAny_bind ?_
  unfold notIterableAtAll
  refine wpAny_bind (wpAny_specialOf ht.typeIs slot_list_iter.lookup ?_)
  refine wpAny_pure ?_
  simp only [Bool.false_eq_true, if_false]
  refine wpAny_bind (wpAny_holding (wpAny_pyIter_list ht ?_))
  refine wpAny_bind (wpAny_holding (draw_list hlt items.size 0 _ _ ⟨_, Heap.get?_push_size _ rfl, rfl, rfl⟩ htp (by omega) fun h₁ hit₁ hs₁ => ?_))
  have hall : List.take items.size (List.drop 0 items.toList) = items.toList := by
    rw [List.drop_zero]; exact List.take_of_length_le (by simp)
  rw [hall]
  rw [if_neg (by simp)]
  have ht₁ : h₁.IsList t items := by obtain ⟨o, ho, r⟩ := htp; exact ⟨o, (hs₁.2 t hlt).trans ho, r⟩
  refine wpAny_bind (wpAny_holding (wpAny_pyNext_list_end hh hit₁ ht₁ (by simp) fun h₂ he₂ => ?_))
  simp only [Option.isSome_none, Bool.false_eq_true, if_false]
  refine wpAny_pure (hQ h₂ fun b o hb e => he₂ b o hb ((hs₁.2 b hb).trans (Heap.get?_push_of_some _ e)))
end
def gTupL (K : PySem.W.Frag) (n : Nat) (t : TGs) : TG := fun v σ H Q => ∃ a xs, v = .ref a ∧ SqL K H a xs ∧ xs.length = n ∧ t xs σ H Q
section
variable {X : Cx} {pos : Pos}
theorem pg_tupL {es : List Expr} {k : Nat} {t : TGs} {n : Nat} (hc : X.calm = true) (h : PGs X es t)
    (hn : (assignEach es X.env).length = n := by rfl) (hst : (assignEach es X.env).findIdx? (·.1) = none := by rfl) : PG X (.Tuple es k pos) (gTupL X.K n t) := by
  intro pins s σ H v u Q I r hw
  obtain ⟨a, xs, e1, hq, hl, hw⟩ := hw
  subst e1
  cases r
  obtain ⟨its, rv, ht, hz⟩ := I.list hq
  rw [assign_Tuple]
  refine wpAny_bind (wpAny_standAt ?_)
  unfold unpack
  rw [hst, show (assignEach es X.env).length = its.toArray.size by rw [hn, ← hl, rv.length, List.size_toArray]]
  refine wpAny_bind (wpAny_holding (unpackItems_list (I.ok.hd hc) ht.isList fun h' hx => ?_))
  have I1 : Inv X pins σ H { s with heap := h' } := I.kept (t' := s.toks) fun b o e => hx b o (Nat.ne_of_lt (Heap.lt_size e)) e
  exact h pins _ σ H xs _ Q I1 (by simpa using rv) hw
theorem k_gtupL (K : PySem.W.Frag) {es : List Expr} {kk : Nat} {t : TGs} {n : Nat} (hc : X.calm = true) (h : PGs X es t) (hK : X.K = K := by rfl) (hn : (assignEach es X.env).length = n := by rfl) (hst : (assignEach es X.env).findIdx? (·.1) = none := by rfl) :
    PG X (.Tuple es kk pos) (gTupL K n t) := by subst hK; exact pg_tupL hc h hn hst
theorem k_repr (K : PySem.W.Frag) {k : Nat} (hr : Room k X.A) (hK : X.K = K := by rfl) : CallR X (.builtin "repr") (rRepr K) := by subst hK; exact call_reprD hr
theorem i_repr {K : PySem.W.Frag} {H : Hp} {Q : VK} {a : Addr} {d : D} (h : Rep K H d (.ref a)) (h1 : dep d ≤ 60) (h2 : Slim d) (h3 : cost d ≤ 1000000) (q : Q (.str (shownD d)) H) : rRepr K [.ref a] H Q := ⟨a, d, rfl, h, h1, h2, h3, q⟩
/-! ### list.insert at a place from nought to the length -/
def rInsert : V → List V → Hp → VK → Prop := fun x vs H Q => ∃ l xs j y, x = .ref l ∧ vs = [.int j, y] ∧ H l = some (.lst xs) ∧ 0 ≤ j ∧ j ≤ (xs.length : Int) ∧ xs.length < 1000000 ∧ Q .non (upd H l (.lst (xs.take j.toNat ++ y :: xs.drop j.toNat)))
theorem fitsIx {j : Int} (h0 : 0 ≤ j) (h : j ≤ 1000000) : ¬ (!Builtin.List.listFitsIndex j) = true := by
  unfold Builtin.List.listFitsIndex
  have a : -(2 ^ 63 : Int) ≤ j := by omega
  have b : j < (2 ^ 63 : Int) := by omega
  rw [decide_eq_true a, decide_eq_true b]
  decide
theorem mt_insert : MtM X "list.insert" rInsert := by
  intro pins s σ H x vs v us Q I rx rv h
  obtain ⟨l, xs, j, y, rfl, rfl, hH, h0, hi, hz, q⟩ := h
  cases rx
  obtain ⟨u1, u2, rfl, ru1, ru2⟩ := vals2 rv
  obtain ⟨tk, rfl⟩ := ru1
  obtain ⟨z, its, n, r, hl, e⟩ := I.lstM hH
  have hf : ¬ (!Builtin.List.listFitsIndex j) = true := fitsIx h0 (by omega)
  have hs1 : its.toArray.size ≤ sizeLine := by rw [List.size_toArray, ← hl]; exact z
  have g := PySem.AutoSeq1.list_insert_list_int_val_1 l its.toArray n j tk u2 hf hs1
  have hk : (if j < 0 then (j + (its.toArray.size : Int)).toNat else min j.toNat its.toArray.size) = j.toNat := by
    rw [if_neg (by omega), List.size_toArray]; omega
  refine call_meets PySem.F.slot_list_insert ⟨_, e, rfl⟩ PySem.F.entry_list_insert (PySem.F.args_list_insert_3 _ _ _) g ⟨e, ?_⟩
  refine ⟨.non, _, I.lset (its' := its.take j.toNat ++ u2 :: its.drop j.toNat) hH e ?_ ?_ ?_, rfl, q⟩
  · show ((its.toArray.extract 0 (if j < 0 then (j + (its.toArray.size : Int)).toNat else min j.toNat its.toArray.size)).push u2 ++ its.toArray.extract (if j < 0 then (j + (its.toArray.size : Int)).toNat else min j.toNat its.toArray.size)) = _
    rw [hk]
    apply Array.ext'
    simp
    exact List.take_of_length_le (by simp)
  · exact (r.take j.toNat).append (.cons ru2 (r.drop j.toNat))
  · rw [List.length_append, List.length_cons, List.length_take, List.length_drop]
    have := million
    omega
end
end L2

set_option Elab.async false
set_option linter.all false
set_option maxRecDepth 100000
namespace L2
open PySem PySem.Spec PyProof.Rows PySem.W
theorem RepFs.append {H : Hp} : ∀ {ds1 : List D} {vs1 : List V} {f1 : List Addr} {ds2 : List D} {vs2 : List V} {f2 : List Addr}, RepFs H ds1 vs1 f1 → RepFs H ds2 vs2 f2 → RepFs H (ds1 ++ ds2) (vs1 ++ vs2) (f1 ++ f2)
  | [], _, _, _, _, _, h1, h2 => by
    unfold RepFs at h1
    obtain ⟨rfl, rfl⟩ := h1
    exact h2
  | d :: ds, _, _, _, _, _, h1, h2 => by
    unfold RepFs at h1
    obtain ⟨v, r, f, g, rfl, rfl, q1, q2⟩ := h1
    rw [List.append_assoc]
    exact RepFs.cany q1 (RepFs.append q2 h2)
theorem RepFs.cut {H : Hp} : ∀ (i : Nat) {ds : List D} {vs : List V} {fp : List Addr}, RepFs H ds vs fp → ∃ f1 f2, fp = f1 ++ f2 ∧ RepFs H (ds.take i) (vs.take i) f1 ∧ RepFs H (ds.drop i) (vs.drop i) f2
  | 0, ds, vs, fp, h => ⟨[], fp, rfl, RepFs.nil, h⟩
  | i + 1, [], _, _, h => by
    unfold RepFs at h
    obtain ⟨rfl, rfl⟩ := h
    exact ⟨[], [], rfl, RepFs.nil, RepFs.nil⟩
  | i + 1, d :: ds, _, _, h => by
    unfold RepFs at h
    obtain ⟨v, r, f, g, rfl, rfl, q1, q2⟩ := h
    obtain ⟨f1, f2, rfl, h1, h2⟩ := RepFs.cut i q2
    exact ⟨f ++ f1, f2, (List.append_assoc _ _ _).symm, RepFs.cany q1 h1, h2⟩
/-- an item put into a list of new things: i = k: ahead of the i-th; k = i + 1: in its place -/
theorem Acc.put {H H2 H3 : Hp} {da : Addr} {ds : List D} {vs : List V} {d : D} {v : V} {i k : Nat} (hik : i ≤ k) (a : Acc H da H2 ds vs) (f : Free H H2) (s : Same H2 H3) (n : New H2 H3 d v) :
    Acc H da (upd H3 da (.lst (vs.take i ++ v :: vs.drop k))) (ds.take i ++ d :: ds.drop k) (vs.take i ++ v :: vs.drop k) := by
  obtain ⟨fp, h1, h2, h3, h4, h5⟩ := a
  obtain ⟨fq, g1, g2, g3⟩ := n
  have hd3 := s _ _ h1
  have tk := tups_lst (o := .lst (vs.take i ++ v :: vs.drop k)) hd3
  have ndq : da ∉ fq := fun m => by have := g3 da m; rw [h1] at this; cases this
  obtain ⟨f1, f2, rfl, r1, r2⟩ := RepFs.cut i h2
  obtain ⟨e1, e2, rfl, r3, r4⟩ := RepFs.cut (k - i) r2
  rw [List.drop_drop, List.drop_drop, show i + (k - i) = k by omega] at r4
  have sub : ∀ b, b ∈ f1 ∨ b ∈ e2 → b ∈ f1 ++ (e1 ++ e2) := fun b m => by
    rcases m with m | m
    · exact List.mem_append_left _ m
    · exact List.mem_append_right _ (List.mem_append_right _ m)
  have keep : ∀ b ∈ f1 ++ (e1 ++ e2), (upd H3 da (.lst (vs.take i ++ v :: vs.drop k))) b = H2 b := fun b hb => by
    obtain ⟨o, ho⟩ := RepFs.has ds h2 b hb
    rw [upd_ne (show b ≠ da from fun z => h4 (by rw [← z]; exact hb)), ho]
    exact s _ _ ho
  have k2 : ∀ b ∈ fq, (upd H3 da (.lst (vs.take i ++ v :: vs.drop k))) b = H3 b := fun b hb => by rw [upd_ne (show b ≠ da from fun z => ndq (by rw [← z]; exact hb))]
  have apart : ∀ b, b ∈ f1 ++ (e1 ++ e2) → b ∉ fq := fun b hb m => by
    obtain ⟨o, ho⟩ := RepFs.has ds h2 b hb
    have := g3 b m
    rw [ho] at this; cases this
  have tt := s.tups.trans tk
  have n1 := List.nodup_append.mp h3
  have n2 := List.nodup_append.mp n1.2.1
  refine ⟨f1 ++ (fq ++ e2), upd_same, (RepFs.frame tt _ (fun b hb => keep b (sub b (.inl hb))) r1).append (RepFs.cany (RepF.frame tk d k2 g1) (RepFs.frame tt _ (fun b hb => keep b (sub b (.inr hb))) r4)), ?_, fun m => ?_, fun b m => ?_⟩
  · refine List.nodup_append.mpr ⟨n1.1, List.nodup_append.mpr ⟨g2, n2.2.1, fun x hx y hy z => ?_⟩, fun x hx y hy z => ?_⟩
    · subst z; exact apart x (sub x (.inr hy)) hx
    · subst z
      rcases List.mem_append.mp hy with m | m
      · exact apart x (sub x (.inl hx)) m
      · exact n1.2.2 x hx x (List.mem_append_right _ m) rfl
  · rcases List.mem_append.mp m with m | m
    · exact h4 (sub da (.inl m))
    rcases List.mem_append.mp m with m | m
    · exact ndq m
    · exact h4 (sub da (.inr m))
  · rcases List.mem_append.mp m with m | m
    · exact h5 b (sub b (.inl m))
    rcases List.mem_append.mp m with m | m
    · exact f b (g3 b m)
    · exact h5 b (sub b (.inr m))
theorem New.acc {H H' : Hp} {ds : List D} {v : V} (h : New H H' (.lst ds) v) : ∃ a vs, v = .ref a ∧ H a = none ∧ Acc H a H' ds vs := by
  obtain ⟨a, vs, fp, e1, e2, e3, e4, e5, e7, e6⟩ := New.lst_out h
  exact ⟨a, vs, e1, e2, fp, e3, e4, e5, e7, e6⟩
theorem Acc.get {H H2 : Hp} {da : Addr} {ds : List D} {vs : List V} (a : Acc H da H2 ds vs) : H2 da = some (.lst vs) := by obtain ⟨fp, h, _⟩ := a; exact h
theorem Acc.len {H H2 : Hp} {da : Addr} {ds : List D} {vs : List V} (a : Acc H da H2 ds vs) : ds.length = vs.length := by obtain ⟨fp, _, h, _⟩ := a; exact h.length
theorem Acc.item {K : PySem.W.Frag} {H H2 : Hp} {da : Addr} {ds : List D} {vs : List V} (a : Acc H da H2 ds vs) : Reps K H2 ds vs := by obtain ⟨fp, _, h, _⟩ := a; exact RepFs.reps ds h
end L2

set_option Elab.async false
set_option linter.all false
set_option maxRecDepth 100000
namespace L2
open PySem PySem.Spec PyProof.Rows PySem.W
/-! ### an argument is no starred one, by its kind -/
section
variable {X : Cx} {es : List Expr} {pos : Pos} {te : TE} {t : TA}
theorem pa_name {x : Str} (h : PE X (.Name x pos) te) (r : PA X es t) : PA X (.Name x pos :: es) (tCons te t) := pa_cons h r rfl
theorem pa_const {c : Const} {k : Nat} (h : PE X (.Constant c k pos) te) (r : PA X es t) : PA X (.Constant c k pos :: es) (tCons te t) := pa_cons h r rfl
theorem pa_un {o : UnaryOp} {a : Expr} (h : PE X (.UnaryOp o a pos) te) (r : PA X es t) : PA X (.UnaryOp o a pos :: es) (tCons te t) := pa_cons h r rfl
theorem pa_if {a b c : Expr} (h : PE X (.IfExp a b c pos) te) (r : PA X es t) : PA X (.IfExp a b c pos :: es) (tCons te t) := pa_cons h r rfl
theorem pa_comp {a : Expr} {g : List Comprehension} {sc : Scope} (h : PE X (.ListComp a g sc pos) te) (r : PA X es t) : PA X (.ListComp a g sc pos :: es) (tCons te t) := pa_cons h r rfl
theorem pa_cmp {a : Expr} {o : List CmpOp} {b : List Expr} (h : PE X (.Compare a o b pos) te) (r : PA X es t) : PA X (.Compare a o b pos :: es) (tCons te t) := pa_cons h r rfl
theorem pa_sub {a b : Expr} (h : PE X (.Subscript a b pos) te) (r : PA X es t) : PA X (.Subscript a b pos :: es) (tCons te t) := pa_cons h r rfl
theorem pa_lst {a : List Expr} (h : PE X (.List a pos) te) (r : PA X es t) : PA X (.List a pos :: es) (tCons te t) := pa_cons h r rfl
theorem pa_tup {a : List Expr} {k : Nat} (h : PE X (.Tuple a k pos) te) (r : PA X es t) : PA X (.Tuple a k pos :: es) (tCons te t) := pa_cons h r rfl
theorem pa_bin {a b : Expr} {o : Operator} (h : PE X (.BinOp a o b pos) te) (r : PA X es t) : PA X (.BinOp a o b pos :: es) (tCons te t) := pa_cons h r rfl
theorem pa_call {f : Expr} {a : List Expr} {k : List Keyword} (h : PE X (.Call f a k pos) te) (r : PA X es t) : PA X (.Call f a k pos :: es) (tCons te t) := pa_cons h r rfl
theorem pa_attr {a : Expr} {x : Str} (h : PE X (.Attribute a x pos) te) (r : PA X es t) : PA X (.Attribute a x pos :: es) (tCons te t) := pa_cons h r rfl
end
/-! ### the judgements as structures: nothing to unfold, so deep displays stay cheap -/
structure QE (X : Cx) (e : Expr) (t : TE) : Prop where
  run : PE X e t
structure QA (X : Cx) (es : List Expr) (t : TA) : Prop where
  run : PA X es t
structure QS (X : Cx) (st : Stmt) (t : TS) : Prop where
  run : PS X st t
structure QSs (X : Cx) (st : List Stmt) (t : TS) : Prop where
  run : PSs X st t
section
variable {X : Cx} {e a b : Expr} {es : List Expr} {pos : Pos} {te ta tb : TE} {t : TA} {r : R2}
theorem q_lst (h : QA X es t) : QE X (.List es pos) (tLst t) := ⟨pe_lst h.run⟩
theorem q_tup {k : Nat} (h : QA X es t) : QE X (.Tuple es k pos) (tTup t) := ⟨pe_tup h.run⟩
theorem q_op {op : Operator} (ho : OpR X (binaryOp op) r) (ha : QE X a ta) (hb : QE X b tb) : QE X (.BinOp a op b pos) (tOp r ta tb) := ⟨pe_op ho ha.run hb.run⟩
theorem q_ix (hr : IxR X r) (ha : QE X a ta) (hb : QE X b tb) (hs : PlainIx b) : QE X (.Subscript a b pos) (tOp r ta tb) := ⟨pe_ix hr ha.run hb.run hs⟩
theorem qa_nil : QA X [] tNil := ⟨pa_nil⟩
theorem qa_name {x : Str} (h : QE X (.Name x pos) te) (r : QA X es t) : QA X (.Name x pos :: es) (tCons te t) := ⟨pa_cons h.run r.run rfl⟩
theorem qa_const {c : Const} {k : Nat} (h : QE X (.Constant c k pos) te) (r : QA X es t) : QA X (.Constant c k pos :: es) (tCons te t) := ⟨pa_cons h.run r.run rfl⟩
theorem qa_sub (h : QE X (.Subscript a b pos) te) (r : QA X es t) : QA X (.Subscript a b pos :: es) (tCons te t) := ⟨pa_cons h.run r.run rfl⟩
theorem qa_lst {l : List Expr} (h : QE X (.List l pos) te) (r : QA X es t) : QA X (.List l pos :: es) (tCons te t) := ⟨pa_cons h.run r.run rfl⟩
theorem qa_tup {l : List Expr} {k : Nat} (h : QE X (.Tuple l k pos) te) (r : QA X es t) : QA X (.Tuple l k pos :: es) (tCons te t) := ⟨pa_cons h.run r.run rfl⟩
theorem qa_bin {o : Operator} (h : QE X (.BinOp a o b pos) te) (r : QA X es t) : QA X (.BinOp a o b pos :: es) (tCons te t) := ⟨pa_cons h.run r.run rfl⟩
end
section
variable {X : Cx} {e : Expr} {st : Stmt} {rest a b : List Stmt} {pos : Pos} {te : TE} {t u : TS} {tc : TT}
theorem qs_ret (h : QE X e te) : QS X (.Return (some e) pos) (tRet te) := ⟨ps_ret h.run⟩
theorem qs_if {c : Expr} (hc : PT X c tc) (ha : QSs X a t) (hb : QSs X b u) : QS X (.If c a b pos) (tIfS tc t u) := ⟨ps_if hc ha.run hb.run⟩
theorem qss_nil : QSs X [] tNext := ⟨pss_nil⟩
theorem qss_one (h : QS X st t) : QSs X [st] t := ⟨pss_one h.run⟩
theorem qss_cons (h : QS X st t) (k : QSs X rest u) : QSs X (st :: rest) (tSeq t u) := ⟨pss_cons h.run k.run⟩
end
/-! ### a statement, and what holds behind it -/
theorem i_seqJ {t u : TS} {D : Ends} {σ : St} {H : Hp} (M : St → Hp → Prop) (h : ∀ NX : St → Hp → Prop, (∀ σ H, M σ H → NX σ H) → t { D with nx := NX } σ H) (tail : ∀ σ H, M σ H → u D σ H) : tSeq t u D σ H := h _ tail
/-- the test of an if, apart from what follows -/
theorem i_ifB {c : TT} {t u : TS} {D : Ends} {σ : St} {H : Hp} (b : Bool) (H1 : Hp) (h : ∀ Q : Bool → Hp → Prop, Q b H1 → c σ H Q) (k : if b = true then t D σ H1 else u D σ H1) : tIfS c t u D σ H := h _ k
/-- a statement that goes no further -/
theorem i_seqR {t u : TS} {D : Ends} {σ : St} {H : Hp} (h : ∀ NX : St → Hp → Prop, t { D with nx := NX } σ H) : tSeq t u D σ H := h _
/-- an if that isn't taken -/
theorem i_skip {c : TT} {t u : TS} {D : Ends} {σ : St} {H : Hp} (h : ∀ Q : Bool → Hp → Prop, Q false H → c σ H Q) (k : u D σ H) : tSeq (tIfS c t tNext) u D σ H := h _ (iteF k)
/-- an if that is taken, and goes no further -/
theorem i_take {c : TT} {t e u : TS} {D : Ends} {σ : St} {H : Hp} (h : ∀ Q : Bool → Hp → Prop, Q true H → c σ H Q) (k : ∀ NX : St → Hp → Prop, t { D with nx := NX } σ H) : tSeq (tIfS c t e) u D σ H := h _ (iteT (k _))
theorem i_isN {x : V} {H : Hp} {Q : VK} {b : Bool} (e : decide (x = .non) = b) (q : Q (.bl b) H) : (fun (x y : V) (H : Hp) (Q : VK) => y = .non ∧ Q (.bl (decide (x = .non))) H) x .non H Q := ⟨rfl, by rw [e]; exact q⟩
theorem ref_non {a : Addr} : decide (V.ref a = V.non) = false := decide_eq_false (by intro z; cases z)
theorem non_non : decide (V.non = V.non) = true := decide_eq_true rfl
theorem i_rng2 {σ : St} {H : Hp} {t : TA} {R : It → Hp → Prop} (h : t σ H fun vs H1 => ∃ i j : Int, vs = [.int i, .int j] ∧ (-(2 ^ 62) ≤ i ∧ i < 2 ^ 62 ∧ -(2 ^ 62) ≤ j ∧ j < 2 ^ 62) ∧ R (Itr i (j - i).toNat) H1) : iRng2 t σ H R := h
theorem i_rng2v {P : Int → Int → Prop} {i j : Int} (h1 : -(2 ^ 62) ≤ i ∧ i < 2 ^ 62 ∧ -(2 ^ 62) ≤ j ∧ j < 2 ^ 62) (h : P i j) : ∃ k l : Int, [V.int i, .int j] = [.int k, .int l] ∧ (-(2 ^ 62) ≤ k ∧ k < 2 ^ 62 ∧ -(2 ^ 62) ≤ l ∧ l < 2 ^ 62) ∧ P k l := ⟨i, j, rfl, h1, h⟩
theorem boot_repr : bootBuiltins "repr" = some (.builtin "repr") := by decide +kernel
theorem boot_abs : bootBuiltins "abs" = some (.builtin "abs") := by decide +kernel
theorem i_slL {K : PySem.W.Frag} {H : Hp} {Q : VK} {a : Addr} {xs : List V} {lo hi : Option Int} (h : SqL K H a xs) (q : ∀ p, H p = none → Q (.ref p) (upd H p (.lst (cutV xs lo hi)))) : rSl K (.ref a) lo hi H Q := .inl ⟨a, xs, rfl, h, q⟩
theorem cut_take {xs : List V} {k : Nat} (h : k ≤ xs.length) : cutV xs none (some (k : Int)) = xs.take k := by
  unfold cutV
  rw [HT.sIx_none, HT.sIx_nat, List.drop_zero, Nat.sub_zero, Nat.min_eq_left h]
theorem cut_drop {xs : List V} {k : Nat} (h : k ≤ xs.length) : cutV xs (some (k : Int)) none = xs.drop k := by
  unfold cutV
  rw [HT.sIx_none, HT.sIx_nat, Nat.min_eq_left h, List.take_of_length_le (by rw [List.length_drop]; exact Nat.le_refl _)]
theorem cut_takeI {xs : List V} {k : Int} (h0 : 0 ≤ k) (h : k.toNat ≤ xs.length) : cutV xs none (some k) = xs.take k.toNat := by
  have := cut_take (xs := xs) h
  rwa [show ((k.toNat : Nat) : Int) = k by omega] at this
theorem cut_dropI {xs : List V} {k : Int} (h0 : 0 ≤ k) (h : k.toNat ≤ xs.length) : cutV xs (some k) none = xs.drop k.toNat := by
  have := cut_drop (xs := xs) h
  rwa [show ((k.toNat : Nat) : Int) = k by omega] at this
theorem i_lenN {K : PySem.W.Frag} {H : Hp} {Q : VK} {a : Addr} {xs : List V} {n : Int} (h : SqL K H a xs ∨ SqT K H a xs) (e : (xs.length : Int) = n) (q : Q (.int n) H) : rLen K [.ref a] H Q := i_len h (by rw [e]; exact q)
theorem ixN_of {n : Nat} {k : Int} (h0 : 0 ≤ k) (h : k < (n : Int)) : ixN n k = some k.toNat := by
  unfold ixN
  rw [if_pos h0, if_pos h]
theorem Same.put {H0 H : Hp} {w : Addr} {o : HO} (s : Same H0 H) (h : H0 w = none) : Same H0 (upd H w o) := fun b u e => by rw [upd_ne (ne_of_none e h)]; exact s _ _ e
theorem atI_of {α : Type} {xs : List α} {k : Int} {x : α} (h0 : 0 ≤ k) (h : xs[k.toNat]? = some x) : atI xs k = some x := by
  have := atI_nat (j := k.toNat) h
  rwa [show ((k.toNat : Nat) : Int) = k by omega] at this
theorem reps2 {K : PySem.W.Frag} {H : Hp} {d e : D} {x y : V} (h1 : Rep K H d x) (h2 : Rep K H e y) : Reps K H [d, e] [x, y] := by
  unfold Reps; refine ⟨_, _, rfl, h1, ?_⟩
  unfold Reps; refine ⟨_, _, rfl, h2, ?_⟩
  unfold Reps; rfl
theorem dep2 {d e : D} (h1 : dep d ≤ 58) (h2 : dep e ≤ 58) : dep (.tup [d, e]) ≤ 60 := by
  unfold dep
  refine Nat.le_trans (Nat.succ_le_succ (deps_le (n := 58) fun c hc => ?_)) (by decide)
  simp at hc
  rcases hc with rfl | rfl
  · exact h1
  · exact h2
/-! ### lists of lines, by their places; two of them may be one -/
def Ls (H : Hp) (ka : Addr) (ls : List (List Int)) : Prop := ∃ as : List Addr, H ka = some (.lst (as.map V.ref)) ∧ as.length = ls.length ∧ ∀ (i : Nat) a l, as[i]? = some a → ls[i]? = some l → H a = some (.lst (l.map V.int))
theorem ints_len {H : Hp} {a : Addr} {l m : List Int} (h1 : H a = some (.lst (l.map V.int))) (h2 : H a = some (.lst (m.map V.int))) : l.length = m.length := by
  rw [h1] at h2
  have := congrArg (fun o => match o with | some (HO.lst xs) => xs.length | _ => 0) h2
  simpa using this
theorem not_refs {H : Hp} {a : Addr} {l : List Int} {as : List Addr} (h1 : H a = some (.lst (l.map V.int))) (h2 : H a = some (.lst (as.map V.ref))) : l = [] := by
  rw [h1] at h2
  cases l with
  | nil => rfl
  | cons i l =>
    cases as with
    | nil => simp at h2
    | cons b as => simp at h2
theorem Ls.same {H H' : Hp} {ka : Addr} {ls : List (List Int)} (e : Same H H') (h : Ls H ka ls) : Ls H' ka ls := by
  obtain ⟨as, h1, h2, h3⟩ := h
  exact ⟨as, e _ _ h1, h2, fun i a l e1 e2 => e _ _ (h3 i a l e1 e2)⟩
theorem Ls.len {H : Hp} {ka : Addr} {ls : List (List Int)} (h : Ls H ka ls) : ∃ xs, H ka = some (.lst xs) ∧ xs.length = ls.length := by
  obtain ⟨as, h1, h2, h3⟩ := h
  exact ⟨_, h1, by rw [List.length_map]; exact h2⟩
theorem Ls.out {K : PySem.W.Frag} {H : Hp} {ka : Addr} {ls : List (List Int)} (h : Ls H ka ls) : ∃ xs, H ka = some (.lst xs) ∧ xs.length = ls.length ∧ Reps K H (ls.map nums) xs := by
  obtain ⟨as, h1, h2, h3⟩ := h
  refine ⟨_, h1, by rw [List.length_map]; exact h2, Reps.of (by simp [h2]) fun i d v e1 e2 => ?_⟩
  rw [List.getElem?_map] at e1 e2
  obtain ⟨l, hl, rfl⟩ := Option.map_eq_some_iff.mp e1
  obtain ⟨a, ha, rfl⟩ := Option.map_eq_some_iff.mp e2
  exact rep_ints.mpr ⟨a, rfl, SqL.of (h3 i a l ha hl)⟩
theorem Ls.rep {K : PySem.W.Frag} {H : Hp} {ka : Addr} {ls : List (List Int)} (h : Ls H ka ls) : Rep K H (.lst (ls.map nums)) (.ref ka) := by
  obtain ⟨xs, h1, _, h2⟩ := h.out (K := K)
  unfold Rep
  exact ⟨ka, xs, rfl, SqL.of h1, h2⟩
theorem Ls.item {H : Hp} {ka : Addr} {ls : List (List Int)} {xs : List V} {i : Nat} {x : V} (h : Ls H ka ls) (e : H ka = some (.lst xs)) (hx : xs[i]? = some x) : ∃ a l, x = .ref a ∧ ls[i]? = some l ∧ H a = some (.lst (l.map V.int)) := by
  obtain ⟨as, h1, h2, h3⟩ := h
  rw [h1] at e; cases e
  rw [List.getElem?_map] at hx
  obtain ⟨a, ha, rfl⟩ := Option.map_eq_some_iff.mp hx
  have hi := (List.getElem?_eq_some_iff.mp ha).1
  refine ⟨a, ls[i]'(by omega), rfl, by simp, h3 i a _ ha (by simp)⟩
/-- a change of a list that is none of the lines, nor the list of them -/
theorem Ls.upd {H : Hp} {ka w : Addr} {ls : List (List Int)} {o : HO} (h : Ls H ka ls) (n : w ≠ ka) (m : ∀ l ∈ ls, H w ≠ some (.lst (l.map V.int))) : Ls (upd H w o) ka ls := by
  obtain ⟨as, h1, h2, h3⟩ := h
  refine ⟨as, by rw [upd_ne n.symm]; exact h1, h2, fun i a l e1 e2 => ?_⟩
  have := h3 i a l e1 e2
  rw [upd_ne (fun z => m l (List.mem_of_getElem? e2) (by rw [← z]; exact this))]
  exact this
theorem Ls.updI {H : Hp} {ka w : Addr} {ls : List (List Int)} {o : HO} {ws : List Int} (h : Ls H ka ls) (n : w ≠ ka) (hw : H w = some (.lst (ws.map V.int))) (h9 : ∀ l ∈ ls, l.length = 9) (nw : ws.length ≠ 9) : Ls (L2.upd H w o) ka ls :=
  h.upd n fun l hl e => nw (by rw [ints_len hw e]; exact h9 l hl)
/-- a line put in the place of another -/
theorem Ls.set {H : Hp} {ka r : Addr} {ls : List (List Int)} {xs : List V} {l : List Int} {i : Nat} (h : Ls H ka ls) (h9 : ∀ l ∈ ls, l.length = 9) (e : H ka = some (.lst xs)) (hr : H r = some (.lst (l.map V.int))) (hl : l.length = 9) (n : r ≠ ka) : Ls (L2.upd H ka (.lst (xs.set i (.ref r)))) ka (ls.set i l) := by
  obtain ⟨as, h1, h2, h3⟩ := h
  rw [h1] at e; cases e
  refine ⟨as.set i r, by rw [upd_same, List.map_set], by simp [h2], fun j a m e1 e2 => ?_⟩
  have key : H a = some (.lst (m.map V.int)) ∧ m.length = 9 := by
    rw [List.getElem?_set] at e1 e2
    by_cases hij : i = j
    · rw [if_pos hij] at e1 e2
      split at e1
      · split at e2
        · cases e1; cases e2; exact ⟨hr, hl⟩
        · cases e2
      · cases e1
    · rw [if_neg hij] at e1 e2
      exact ⟨h3 j a m e1 e2, h9 m (List.mem_of_getElem? e2)⟩
  rw [upd_ne (fun z => by
    have q := key.1
    rw [z] at q
    have := not_refs q h1
    rw [this] at key; exact absurd key.2 (by decide))]
  exact key.1
theorem New.ls {H H' : Hp} {ls : List (List Int)} {v : V} (h : New H H' (.lst (ls.map nums)) v) : ∃ ka, v = .ref ka ∧ H ka = none ∧ Ls H' ka ls := by
  obtain ⟨a, vs, fp, rfl, ha, h1, h2, _⟩ := New.lst_out h
  obtain ⟨e1, e2, e3⟩ := RepFs.lines h2
  subst e1
  refine ⟨a, rfl, ha, fp, h1, e2, fun i b l q1 q2 => ?_⟩
  obtain ⟨l', z1, z2⟩ := e3 i b q1
  rw [q2] at z1; cases z1
  exact z2
theorem Ls.cut {H : Hp} {ka p : Addr} {ls : List (List Int)} {xs : List V} {k : Nat} (h : Ls H ka ls) (e : H ka = some (.lst xs)) (hp : H p = none) : Ls (L2.upd H p (.lst (xs.take k))) p (ls.take k) := by
  obtain ⟨as, h1, h2, h3⟩ := h
  rw [h1] at e; cases e
  refine ⟨as.take k, by rw [upd_same, List.map_take], by simp [h2], fun j a m e1 e2 => ?_⟩
  rw [List.getElem?_take] at e1 e2
  split at e1
  · rename_i hj
    rw [if_pos hj] at e2
    exact same_upd hp _ _ _ (h3 j a m e1 e2)
  · cases e1
theorem upd_comm {H : Hp} {a b : Addr} {o u : HO} (n : a ≠ b) : upd (upd H a o) b u = upd (upd H b u) a o := by
  funext c
  by_cases e1 : c = a
  · subst e1; rw [upd_same, upd_ne n, upd_same]
  · rw [upd_ne e1]
    by_cases e2 : c = b
    · subst e2; rw [upd_same, upd_same]
    · rw [upd_ne e2, upd_ne e1, upd_ne e2]
theorem Ls.fresh {H : Hp} {ka g : Addr} {ls : List (List Int)} (h : Ls H ka ls) (n : H g = none) : ∃ as : List Addr, H ka = some (.lst (as.map V.ref)) ∧ g ∉ as := by
  obtain ⟨as, h1, h2, h3⟩ := h
  refine ⟨as, h1, fun m => ?_⟩
  obtain ⟨i, hi, e⟩ := List.getElem_of_mem m
  have := h3 i g (ls[i]'(by omega)) (by rw [← e]; simp) (by simp)
  rw [n] at this; cases this
theorem refs_inj : ∀ {l m : List Addr}, l.map V.ref = m.map V.ref → l = m
  | [], [], _ => rfl
  | [], _ :: _, e => by simp at e
  | _ :: _, [], e => by simp at e
  | a :: l, b :: m, e => by
    rw [List.map_cons, List.map_cons] at e
    injection e with e1 e2
    injection e1 with e1
    rw [e1, refs_inj e2]
theorem Ls.updA {H : Hp} {ka w : Addr} {ls : List (List Int)} {o : HO} (h : Ls H ka ls) (n : w ≠ ka) (m : ∃ as : List Addr, H ka = some (.lst (as.map V.ref)) ∧ w ∉ as) : Ls (L2.upd H w o) ka ls := by
  obtain ⟨as, h1, h2, h3⟩ := h
  obtain ⟨as', h1', m⟩ := m
  have e : as = as' := by
    rw [h1] at h1'
    have e1 : as.map V.ref = as'.map V.ref := by injection h1' with h1'; injection h1'
    exact refs_inj e1
  subst e
  refine ⟨as, by rw [upd_ne n.symm]; exact h1, h2, fun i a l e1 e2 => ?_⟩
  rw [upd_ne (fun z => m (by rw [← z]; exact List.mem_of_getElem? e1))]
  exact h3 i a l e1 e2
/-- one list behind another, both new -/
theorem New.cat {H H1 H2 : Hp} {a b p : Addr} {ds1 ds2 : List D} {xs ys : List V} (n1 : New H H1 (.lst ds1) (.ref a)) (e1 : Same H H1) (s : Same H1 H2) (n2 : New H1 H2 (.lst ds2) (.ref b)) (h1 : H2 a = some (.lst xs)) (h2 : H2 b = some (.lst ys)) (hp : H2 p = none) : New H (upd H2 p (.lst (xs ++ ys))) (.lst (ds1 ++ ds2)) (.ref p) := by
  obtain ⟨a', vs, fp, ea, ha, g1, g2, g3, g4, g5⟩ := New.lst_out n1
  cases ea
  obtain ⟨b', vs', fq, eb, hb, k1, k2, k3, k4, k5⟩ := New.lst_out n2
  cases eb
  have ev : xs = vs := by rw [s _ _ g1] at h1; injection h1 with h1; injection h1 with h1; exact h1.symm
  have ev' : ys = vs' := by rw [k1] at h2; injection h2 with h2; injection h2 with h2; exact h2.symm
  subst ev; subst ev'
  have sp := same_upd hp (.lst (xs ++ ys))
  have hf : ∀ b ∈ fp, ∃ o, H1 b = some o := RepFs.has _ g2
  refine New.lst ((RepFs.sq (s.trans sp).sq _ g2).append (RepFs.sq sp.sq _ k2)) (List.nodup_append.mpr ⟨g3, k3, fun x hx y hy z => ?_⟩) (fun c hc => ?_) ((e1.trans s).free hp) (fun m => ?_) upd_same
  · subst z
    obtain ⟨o, ho⟩ := hf x hx
    have := k5 x hy
    rw [ho] at this; cases this
  · rcases List.mem_append.mp hc with hc | hc
    · exact g5 c hc
    · exact e1.free (k5 c hc)
  · rcases List.mem_append.mp m with m | m
    · obtain ⟨o, ho⟩ := hf p m
      rw [s _ _ ho] at hp; cases hp
    · obtain ⟨o, ho⟩ := RepFs.has _ k2 p m
      rw [ho] at hp; cases hp
/-- an item of a list of new things is new -/
theorem New.item {H H' : Hp} {ds : List D} {a : Addr} {xs : List V} {i : Nat} {d : D} {x : V} (n : New H H' (.lst ds) (.ref a)) (e : H' a = some (.lst xs)) (hd : ds[i]? = some d) (hx : xs[i]? = some x) : New H H' d x := by
  obtain ⟨a', vs, fp, ea, ha, g1, g2, g3, g4, g5⟩ := New.lst_out n
  cases ea
  rw [g1] at e; cases e
  obtain ⟨f1, f2, rfl, r1, r2⟩ := RepFs.cut i g2
  have hi := (List.getElem?_eq_some_iff.mp hd).1
  have hj := (List.getElem?_eq_some_iff.mp hx).1
  rw [List.drop_eq_getElem_cons hi, List.drop_eq_getElem_cons hj] at r2
  unfold RepFs at r2
  obtain ⟨v, r, f, g, e1, rfl, q1, q2⟩ := r2
  cases e1
  rw [List.getElem?_eq_getElem hi] at hd; cases hd
  rw [List.getElem?_eq_getElem hj] at hx; cases hx
  have n2 := (List.nodup_append.mp g3).2.1
  exact ⟨f, q1, (List.nodup_append.mp n2).1, fun b hb => g5 b (List.mem_append_right _ (List.mem_append_left _ hb))⟩
theorem New.pairT {H H1 : Hp} {w : Int} {ws : List Int} {a t : Addr} (n : New H H1 (nums ws) (.ref a)) (ht : H1 t = none) : New H (upd H1 t (.tup [.int w, .ref a])) (.tup [.int w, nums ws]) (.ref t) := by
  obtain ⟨a', e, h1, h2⟩ := New.ints_iff.mp n
  cases e
  have s := same_upd ht (.tup [.int w, .ref a])
  refine New.tup (fp := [a]) (RepFs.cint (RepFs.cany (f := [a]) (fp := []) (RepF.line (s _ _ h2)) RepFs.nil)) (by simp) (fun b hb => ?_) upd_same
  rw [List.mem_singleton.mp hb]; exact h1
/-! ### a goal, lines and weights under way -/
structure D4 (H0 H : Hp) (ga ka wa : Addr) (goal : List Int) (known : List (List Int)) (ws : List Int) (m n : Nat) : Prop where
  s : Same H0 H
  g0 : H0 ga = none
  k0 : H0 ka = none
  w0 : H0 wa = none
  g : H ga = some (.lst (goal.map V.int))
  k : Ls H ka known
  w : H wa = some (.lst (ws.map V.int))
  lg : goal.length = 9
  lk : ∀ l ∈ known, l.length = 9
  nk : known.length = m
  nw : ws.length = n
  bw : ∀ w ∈ ws, -10 ≤ w ∧ w ≤ 10
  ne : wa ≠ ka
section
variable {H0 H : Hp} {ga ka wa : Addr} {goal : List Int} {known : List (List Int)} {ws : List Int} {m n : Nat}
theorem D4.same {H' : Hp} (d : D4 H0 H ga ka wa goal known ws m n) (e : Same H H') : D4 H0 H' ga ka wa goal known ws m n where
  s := d.s.trans e
  g0 := d.g0
  k0 := d.k0
  w0 := d.w0
  g := e _ _ d.g
  k := d.k.same e
  w := e _ _ d.w
  lg := d.lg
  lk := d.lk
  nk := d.nk
  nw := d.nw
  bw := d.bw
  ne := d.ne
theorem D4.gw (d : D4 H0 H ga ka wa goal known ws m n) (hn : n ≤ 8) : ga ≠ wa := fun z => by
  have g := d.g
  rw [z] at g
  have := ints_len g d.w
  have := d.lg
  have := d.nw
  omega
theorem D4.gk (d : D4 H0 H ga ka wa goal known ws m n) : ga ≠ ka := fun z => by
  obtain ⟨as, h1, _⟩ := d.k
  have g := d.g
  rw [z] at g
  have := not_refs g h1
  have := d.lg
  simp_all
theorem D4.wput {ys : List V} {us : List Int} {n' : Nat} (d : D4 H0 H ga ka wa goal known ws m n) (hn : n ≤ 8) (e : ys = us.map V.int) (hl : us.length = n') (hb : ∀ w ∈ us, -10 ≤ w ∧ w ≤ 10) : D4 H0 (upd H wa (.lst ys)) ga ka wa goal known us m n' where
  s := d.s.put d.w0
  g0 := d.g0
  k0 := d.k0
  w0 := d.w0
  g := by rw [upd_ne (d.gw hn)]; exact d.g
  k := d.k.updI d.ne d.w d.lk (by have := d.nw; omega)
  w := by rw [upd_same, e]
  lg := d.lg
  lk := d.lk
  nk := d.nk
  nw := hl
  bw := hb
  ne := d.ne
theorem D4.setW {j : Nat} {v : Int} (d : D4 H0 H ga ka wa goal known ws m n) (hn : n ≤ 8) (hv : -10 ≤ v ∧ v ≤ 10) : D4 H0 (upd H wa (.lst ((ws.map V.int).set j (.int v)))) ga ka wa goal known (ws.set j v) m n :=
  d.wput hn (by rw [List.map_set]) (by rw [List.length_set]; exact d.nw) fun w hw => by
    rcases List.mem_or_eq_of_mem_set hw with h | h
    · exact d.bw w h
    · rw [h]; exact hv
theorem D4.newW {p : Addr} {ys : List V} {us : List Int} {n' : Nat} (d : D4 H0 H ga ka wa goal known ws m n) (hp : H p = none) (e : ys = us.map V.int) (hl : us.length = n') (hb : ∀ w ∈ us, -10 ≤ w ∧ w ≤ 10) : D4 H0 (upd H p (.lst ys)) ga ka p goal known us m n' :=
  have d' := d.same (same_upd hp (.lst ys))
  { d' with w0 := d.s.free hp, w := by rw [upd_same, e], nw := hl, bw := hb, ne := fun z => by obtain ⟨xs, h1, _⟩ := d.k.len; rw [z, h1] at hp; cases hp }
theorem D4.newG {p : Addr} {us : List Int} (d : D4 H0 H ga ka wa goal known ws m n) (h0 : H0 p = none) (hp : H p = some (.lst (us.map V.int))) (hl : us.length = 9) : D4 H0 H p ka wa us known ws m n :=
  { d with g0 := h0, g := hp, lg := hl }
theorem D4.setK {r : Addr} {j : Nat} {l : List Int} {xs : List V} (d : D4 H0 H ga ka wa goal known ws m n) (e : H ka = some (.lst xs)) (hr : H r = some (.lst (l.map V.int))) (hl : l.length = 9) (hn : r ≠ ka) : D4 H0 (upd H ka (.lst (xs.set j (.ref r)))) ga ka wa goal (known.set j l) ws m n where
  s := d.s.put d.k0
  g0 := d.g0
  k0 := d.k0
  w0 := d.w0
  g := by rw [upd_ne d.gk]; exact d.g
  k := d.k.set d.lk e hr hl hn
  w := by rw [upd_ne d.ne]; exact d.w
  lg := d.lg
  lk := fun u hu => by
    rcases List.mem_or_eq_of_mem_set hu with h | h
    · exact d.lk u h
    · rw [h]; exact hl
  nk := by rw [List.length_set]; exact d.nk
  nw := d.nw
  bw := d.bw
  ne := d.ne
end
end L2

set_option linter.all false
set_option maxRecDepth 100000
namespace My
/-! ### the law's own draws -/
def mix (c k m : Int) : Int := (c % 2147483647 + 12345) * (48271 + 6 * k) % 1000000007 / 7 % m
def pick4 (i : Int) : Int := if i = 0 then 1000000000 else if i = 1 then -1000000000 else if i = 2 then 999999999 else -999999999
def number (c k : Int) : Int :=
  if mix c k 9 = 0 then c % 2000000001 - 1000000000
  else if mix c k 9 = 1 then pick4 (mix c (k + 1) 4)
  else mix c (k + 2) 9 - 4
theorem mix_nonneg {c k m : Int} (h : 0 < m) : 0 ≤ mix c k m := Int.emod_nonneg _ (by omega)
theorem mix_lt {c k m : Int} (h : 0 < m) : mix c k m < m := Int.emod_lt_of_pos _ h
theorem pick4_le (i : Int) : -1000000000 ≤ pick4 i ∧ pick4 i ≤ 1000000000 := by
  unfold pick4
  split
  · omega
  · split
    · omega
    · split <;> omega
theorem number_le (c k : Int) : -1000000000 ≤ number c k ∧ number c k ≤ 1000000000 := by
  unfold number
  split
  · have h1 := Int.emod_nonneg c (show (2000000001 : Int) ≠ 0 by decide)
    have h2 := Int.emod_lt_of_pos c (show (0 : Int) < 2000000001 by decide)
    omega
  · split
    · exact pick4_le _
    · have h1 := mix_nonneg (c := c) (k := k + 2) (m := 9) (by decide)
      have h2 := mix_lt (c := c) (k := k + 2) (m := 9) (by decide)
      omega
def cell (ns : List Int) (k : Int) : Int := ns.getD k.toNat 0

/-! ### lines -/
def dot : List Int → List Int → Int
  | f :: fs, n :: ns => f * n + dot fs ns
  | _, _ => 0
def worthL (l ns : List Int) : Int := l.headD 0 + dot l.tail ns
theorem dot_take_succ : ∀ (fs ns : List Int) (i : Nat) (f n : Int), fs[i]? = some f → ns[i]? = some n → dot (fs.take (i + 1)) (ns.take (i + 1)) = dot (fs.take i) (ns.take i) + f * n
  | [], _, i, f, n, h, _ => by simp at h
  | _ :: _, [], i, f, n, _, h => by simp at h
  | a :: fs, b :: ns, 0, f, n, h1, h2 => by
    simp at h1 h2
    subst h1; subst h2
    simp [dot]
  | a :: fs, b :: ns, i + 1, f, n, h1, h2 => by
    have ih := dot_take_succ fs ns i f n (by simpa using h1) (by simpa using h2)
    simp only [List.take_succ_cons, dot]
    rw [ih, Int.add_assoc]
end My

set_option linter.all false
set_option maxRecDepth 100000
namespace My
def bareL (i : Int) : List Int := 0 :: (List.range 8).map fun (k : Nat) => if (0 + (k : Int)) = i then 1 else 0
def addW (w : Int) (t l : List Int) : List Int := List.zipWith (fun s n => s + n * w) t l
def foldW (ps : List (List Int × Int)) (t : List Int) : List Int := ps.foldl (fun t p => addW p.2 t p.1) t
def summedL (ls : List (List Int)) (ws : List Int) : List Int := foldW (ls.zip ws) (List.replicate 9 0)
def addHead (c : Int) : List Int → List Int
  | [] => []
  | x :: r => (x + c) :: r
def turnedL (line : List Int) (eight : List (List Int)) : List Int := addHead (line.headD 0) (summedL eight line.tail)
def sumAt (k : Nat) (ps : List (List Int × Int)) (s : Int) : Int := ps.foldl (fun t p => t + p.1.getD k 0 * p.2) s

theorem addW_length {w : Int} {t l : List Int} (h1 : t.length = 9) (h2 : l.length = 9) : (addW w t l).length = 9 := by
  unfold addW; rw [List.length_zipWith, h1, h2]; rfl
theorem foldW_length : ∀ (ps : List (List Int × Int)) (t : List Int), t.length = 9 → (∀ p ∈ ps, p.1.length = 9) → (foldW ps t).length = 9
  | [], t, h, _ => h
  | p :: ps, t, h, hp => foldW_length ps _ (addW_length h (hp p List.mem_cons_self)) fun q hq => hp q (List.mem_cons_of_mem _ hq)
theorem zip_len {ls : List (List Int)} {ws : List Int} (h : ∀ l ∈ ls, l.length = 9) : ∀ p ∈ ls.zip ws, p.1.length = 9 := fun p hp => h p.1 (List.of_mem_zip hp).1
theorem summedL_length {ls : List (List Int)} {ws : List Int} (h : ∀ l ∈ ls, l.length = 9) : (summedL ls ws).length = 9 := foldW_length _ _ (by simp) (zip_len h)
theorem foldW_snoc (ps : List (List Int × Int)) (p : List Int × Int) (t : List Int) : foldW (ps ++ [p]) t = addW p.2 (foldW ps t) p.1 := by
  unfold foldW; rw [List.foldl_append]; rfl
theorem sumAt_snoc (k : Nat) (ps : List (List Int × Int)) (p : List Int × Int) (s : Int) : sumAt k (ps ++ [p]) s = sumAt k ps s + p.1.getD k 0 * p.2 := by
  unfold sumAt; rw [List.foldl_append]; rfl
theorem addW_get {w : Int} {t l : List Int} (h1 : t.length = 9) (h2 : l.length = 9) {k : Nat} (hk : k < 9) : (addW w t l).getD k 0 = t.getD k 0 + l.getD k 0 * w := by
  unfold addW
  rw [List.getD_eq_getElem?_getD, List.getElem?_zipWith, List.getD_eq_getElem?_getD, List.getD_eq_getElem?_getD, List.getElem?_eq_getElem (by omega : k < t.length), List.getElem?_eq_getElem (by omega : k < l.length)]
  rfl
theorem foldW_get {k : Nat} (hk : k < 9) : ∀ (ps : List (List Int × Int)) (t : List Int), t.length = 9 → (∀ p ∈ ps, p.1.length = 9) → (foldW ps t).getD k 0 = sumAt k ps (t.getD k 0)
  | [], t, h, _ => rfl
  | p :: ps, t, h, hp => by
    have h2 := hp p List.mem_cons_self
    show (foldW ps (addW p.2 t p.1)).getD k 0 = sumAt k ps (t.getD k 0 + p.1.getD k 0 * p.2)
    rw [foldW_get hk ps _ (addW_length h h2) fun q hq => hp q (List.mem_cons_of_mem _ hq), addW_get h h2 hk]
theorem eq_range {l : List Int} {n : Nat} (h : l.length = n) {f : Nat → Int} (hf : ∀ k, k < n → l.getD k 0 = f k) : l = (List.range n).map f := by
  refine List.ext_getElem? fun i => ?_
  rw [List.getElem?_map]
  by_cases hi : i < n
  · rw [List.getElem?_range hi, List.getElem?_eq_getElem (by omega)]
    have := hf i hi
    rw [List.getD_eq_getElem?_getD, List.getElem?_eq_getElem (by omega)] at this
    simpa using this
  · rw [List.getElem?_eq_none (by omega), List.getElem?_eq_none (by rw [List.length_range]; omega)]
    rfl
theorem summed_due {ls : List (List Int)} {ws : List Int} (h : ∀ l ∈ ls, l.length = 9) : summedL ls ws = (List.range 9).map fun k => sumAt k (ls.zip ws) 0 :=
  eq_range (summedL_length h) fun k hk => by
    unfold summedL
    rw [foldW_get hk _ _ (by simp) (zip_len h)]
    congr 1
    rw [List.getD_eq_getElem?_getD, List.getElem?_replicate, if_pos hk]
    rfl

theorem zip_get {ls : List (List Int)} {ws : List Int} {i : Nat} {l : List Int} {w : Int} (h1 : ls[i]? = some l) (h2 : ws[i]? = some w) : (ls.zip ws)[i]?.toList = [(l, w)] := by
  rw [(List.getElem?_zip_eq_some (z := (l, w))).mpr ⟨h1, h2⟩]; rfl
/-! ### the worth of sums -/
theorem dot_addW (w : Int) : ∀ (t l ns : List Int), t.length = l.length → dot (List.zipWith (fun s n => s + n * w) t l) ns = dot t ns + w * dot l ns
  | [], [], ns, _ => by simp [dot]
  | a :: t, b :: l, [], _ => by simp [dot]
  | a :: t, b :: l, n :: ns, h => by
    have ih := dot_addW w t l ns (by simpa using h)
    simp only [List.zipWith_cons_cons, dot]
    rw [ih, Int.add_mul, Int.mul_add, Int.mul_comm b w, Int.mul_assoc]
    omega
theorem worth_addW (w : Int) {t l : List Int} (ns : List Int) (h1 : t.length = 9) (h2 : l.length = 9) : worthL (addW w t l) ns = worthL t ns + w * worthL l ns := by
  cases t with
  | nil => simp at h1
  | cons a t =>
    cases l with
    | nil => simp at h2
    | cons b l =>
      have := dot_addW w t l ns (by simp at h1 h2; omega)
      unfold worthL addW
      simp only [List.zipWith_cons_cons, List.headD_cons, List.tail_cons]
      rw [this, Int.mul_add, Int.mul_comm b w]
      omega
theorem worth_foldW (ns : List Int) : ∀ (ls : List (List Int)) (fs : List Int) (t : List Int), t.length = 9 → (∀ l ∈ ls, l.length = 9) → worthL (foldW (ls.zip fs) t) ns = worthL t ns + dot fs (ls.map fun l => worthL l ns)
  | [], fs, t, h, _ => by cases fs <;> simp [foldW, dot]
  | l :: ls, [], t, h, _ => by simp [foldW, dot]
  | l :: ls, f :: fs, t, h, hp => by
    have h2 := hp l List.mem_cons_self
    have ih := worth_foldW ns ls fs (addW f t l) (addW_length h h2) fun q hq => hp q (List.mem_cons_of_mem _ hq)
    show worthL (foldW (ls.zip fs) (addW f t l)) ns = worthL t ns + (f * worthL l ns + dot fs (ls.map fun l => worthL l ns))
    rw [ih, worth_addW f ns h h2]
    omega
theorem dot_zeros : ∀ (k : Nat) (ns : List Int), dot (List.replicate k 0) ns = 0
  | 0, ns => by simp [dot]
  | k + 1, [] => by simp [List.replicate_succ, dot]
  | k + 1, n :: ns => by simp [List.replicate_succ, dot, dot_zeros k ns]
theorem worth_zeros (ns : List Int) : worthL (List.replicate 9 0) ns = 0 := by
  have := dot_zeros 8 ns
  show (0 : Int) + dot (List.replicate 8 0) ns = 0
  rw [this]; rfl
theorem worth_turned {line : List Int} {eight : List (List Int)} (ns : List Int) (h : ∀ l ∈ eight, l.length = 9) : worthL (turnedL line eight) ns = worthL line (eight.map fun l => worthL l ns) := by
  have h9 := summedL_length (ws := line.tail) h
  have hw := worth_foldW ns eight line.tail (List.replicate 9 0) (by simp) h
  rw [worth_zeros] at hw
  unfold turnedL
  cases e : summedL eight line.tail with
  | nil => rw [e] at h9; simp at h9
  | cons x r =>
    unfold summedL at e
    rw [e] at hw
    unfold worthL at hw ⊢
    simp only [addHead, List.headD_cons, List.tail_cons] at hw ⊢
    omega
theorem turned_get {c : Int} {fs : List Int} {ls : List (List Int)} {p : Nat} (h9 : ∀ l ∈ ls, l.length = 9) (hp : p < 9) : (turnedL (c :: fs) ls).getD p 0 = (if p = 0 then c else 0) + sumAt p (ls.zip fs) 0 := by
  have hl := summedL_length (ws := fs) h9
  have hg : (summedL ls fs).getD p 0 = sumAt p (ls.zip fs) 0 := by
    unfold summedL
    rw [foldW_get hp _ _ (by simp) (zip_len h9)]
    congr 1
    rw [List.getD_eq_getElem?_getD, List.getElem?_replicate, if_pos hp]
    rfl
  unfold turnedL
  rw [show (c :: fs).tail = fs by rfl, show (c :: fs).headD 0 = c by rfl, ← hg]
  cases e : summedL ls fs with
  | nil => rw [e] at hl; simp at hl
  | cons x r =>
    cases p with
    | zero => simp [addHead]; omega
    | succ p => simp [addHead]
theorem worthL_cons (h : Int) (t ns : List Int) : worthL (h :: t) ns = h + dot t ns := rfl
end My

set_option Elab.async false
set_option linter.all false
set_option maxRecDepth 100000
namespace My
open PySem L2
def condB (c : Int) (zero : List Int) (k : Nat) : Bool := inV (.int (0 + (k : Int))) (zero.map V.int) || decide (mix c (60 + (0 + (k : Int))) 3 = 0)
def lineBy (c : Int) (zero : List Int) : List Int := (List.range 9).map fun j => if decide (0 < j) && condB c zero (j - 1) then 0 else number c (5 * (0 + (j : Int)))
def lineI (c : Int) (zero : List Int) (i : Nat) : List Int := (List.range 9).map fun j => if decide (0 < j) && decide (j - 1 < i) && condB c zero (j - 1) then 0 else number c (5 * (0 + (j : Int)))
theorem set_range {f : Nat → Int} {n p : Nat} {v : Int} (hp : p < n) : ((List.range n).map f).set p v = (List.range n).map fun j => if j = p then v else f j := by
  refine List.ext_getElem? fun i => ?_
  by_cases hi : i < n
  · by_cases e : i = p
    · subst e
      rw [List.getElem?_set_self (by simpa using hi), List.getElem?_map, List.getElem?_range hi]
      simp
    · rw [List.getElem?_set_ne (Ne.symm e), List.getElem?_map, List.getElem?_map, List.getElem?_range hi]
      simp [e]
  · rw [List.getElem?_eq_none (by simp; omega), List.getElem?_eq_none (by simp; omega)]
theorem range_congr {f g : Nat → Int} {n : Nat} (h : ∀ j, j < n → f j = g j) : (List.range n).map f = (List.range n).map g :=
  List.map_congr_left fun j hj => h j (List.mem_range.mp hj)
theorem lineI_set {c : Int} {zero : List Int} {i : Nat} (hi : i < 8) (h : condB c zero i = true) : (lineI c zero i).set (i + 1) 0 = lineI c zero (i + 1) := by
  unfold lineI
  rw [set_range (by omega)]
  refine range_congr fun j hj => ?_
  by_cases e : j = i + 1
  · subst e; simp [h]
  · rw [if_neg e]
    have : decide (j - 1 < i) = decide (j - 1 < i + 1) ∨ j = 0 := by
      by_cases h0 : j = 0
      · exact .inr h0
      · refine .inl (decide_eq_decide.mpr ⟨fun z => by omega, fun z => by omega⟩)
    rcases this with z | z
    · rw [z]
    · subst z; simp
theorem lineI_skip {c : Int} {zero : List Int} {i : Nat} (h : condB c zero i = false) : lineI c zero i = lineI c zero (i + 1) := by
  unfold lineI
  refine range_congr fun j hj => ?_
  by_cases e : j = i + 1
  · subst e; simp [h]
  · have : decide (j - 1 < i) = decide (j - 1 < i + 1) ∨ j = 0 := by
      by_cases h0 : j = 0
      · exact .inr h0
      · refine .inl (decide_eq_decide.mpr ⟨fun z => by omega, fun z => by omega⟩)
    rcases this with z | z
    · rw [z]
    · subst z; simp
theorem lineI_zero (c : Int) (zero : List Int) : lineI c zero 0 = (List.range 9).map fun (j : Nat) => number c (5 * (0 + (j : Int))) := by
  unfold lineI; refine range_congr fun j hj => ?_; simp
theorem lineI_all (c : Int) (zero : List Int) : lineI c zero 8 = lineBy c zero := by
  unfold lineI lineBy
  refine range_congr fun j hj => ?_
  have : decide (j - 1 < 8) = true := decide_eq_true (by omega)
  rw [this, Bool.and_true]
theorem lineBy_length (c : Int) (zero : List Int) : (lineBy c zero).length = 9 := by simp [lineBy]
theorem lineI_length (c : Int) (zero : List Int) (i : Nat) : (lineI c zero i).length = 9 := by simp [lineI]
theorem lineBy_le {c : Int} {zero : List Int} : ∀ f ∈ lineBy c zero, -1000000000 ≤ f ∧ f ≤ 1000000000 := fun f h => by
  obtain ⟨k, _, rfl⟩ := List.mem_map.mp h
  split
  · omega
  · exact number_le _ _
/-- the factors that must be nought are nought -/
theorem lineBy_zero {c : Int} {zero : List Int} {k : Nat} (hk : k < 8) (h : (k : Int) ∈ zero) : (lineBy c zero).getD (k + 1) 0 = 0 := by
  unfold lineBy
  rw [List.getD_eq_getElem?_getD, List.getElem?_map, List.getElem?_range (by omega)]
  have : condB c zero k = true := by
    unfold condB inV
    rw [Bool.or_eq_true]
    refine .inl ?_
    rw [List.any_map, List.any_eq_true]
    exact ⟨(k : Int), h, by simp [eqV]⟩
  simp [this]
def linesD (c : Int) (zero : List Int) : List (List Int) := (List.range (mix c 20 3).toNat).map fun (k : Nat) => lineBy (c + 77 * (0 + (k : Int))) zero
theorem linesD_mem {c : Int} {zero : List Int} {l : List Int} (h : l ∈ linesD c zero) : ∃ c', l = lineBy c' zero := by
  obtain ⟨k, _, rfl⟩ := List.mem_map.mp h
  exact ⟨_, rfl⟩
theorem linesD_le (c : Int) (zero : List Int) : (linesD c zero).length ≤ 2 := by
  have h1 := mix_nonneg (c := c) (k := 20) (m := 3) (by decide)
  have h2 := mix_lt (c := c) (k := 20) (m := 3) (by decide)
  simp [linesD]; omega
def byOf (c : Int) : Int := if mix c 6 4 = 0 then 1 else if mix c 6 4 = 1 then 1000 else if mix c 6 4 = 2 then 1 + mix c 5 1000 else 2
def lowOf (c : Int) : Int := number (c / 13) 7
def highOf (c : Int) : Int := if number (c / 17) 8 > lowOf c then number (c / 17) 8 else lowOf c
def deedD (c count : Int) : D :=
  if mix c 4 6 = 0 then .tup [.str "set", .int (mix c 3 4), nums (lineBy (c / 11) [6, 7])]
  else if mix c 4 6 = 1 then .tup [.str "part", .int (mix c 3 4), nums (lineBy (c / 11) [6, 7]), .int (byOf c)]
  else if mix c 4 6 = 2 then .tup [.str "draw", .int (mix c 3 4), .int (lowOf c), .int (highOf c)]
  else if mix c 4 6 = 3 then .tup [.str "turn", nums (lineBy (c / 11) [6, 7]), .int (mix c 9 (count + 1))]
  else if mix c 4 6 = 4 then .tup [.str "hold", nums (lineBy (c / 11) [6, 7])]
  else .tup [.str "call", .int (mix c 12 100), .tup [.int (mix c 10 4), .int (mix c 11 4)], .tup [.int (mix c 3 4), .int ((mix c 3 4 + 1 + mix c 13 3) % 4)]]
def needsL (ns : List Int) (start : Int) : List (List Int) := linesD (cell ns start) [0, 1, 2, 3, 6, 7]
def leavesL (ns : List Int) (start : Int) : List (List Int) := linesD (cell ns (start + 1)) [0, 1, 2, 3]
def deedsL (ns : List Int) (start count : Int) : List D := (List.range count.toNat).map fun (k : Nat) => deedD (cell ns (start + 2 + (0 + (k : Int)))) count
def notesL (ns : List Int) (start count : Int) : List (List (List Int)) := (List.range count.toNat).map fun (k : Nat) => linesD (cell ns (start + 2 + (0 + (k : Int))) / 19) [6, 7]
def linesV (ls : List (List Int)) : D := .lst (ls.map nums)
def partsD (ns : List Int) (start count : Int) : D := .lst [linesV (needsL ns start), linesV (leavesL ns start), .lst (deedsL ns start count), .lst ((notesL ns start count).map linesV)]
end My
namespace My
open PySem L2
def hands8 : List Int := [0, 1, 2, 3, 4, 5, 0, 1]
def eightL : List (List Int) := hands8.map bareL
def dueL (leaves : List (List Int)) (notes : List (List (List Int))) (place : Int) : List (List Int) := if place = (notes.length : Int) then leaves.map fun l => turnedL l eightL else notes.getD place.toNat []
theorem bareL_mem {i : Int} : ∀ n ∈ bareL i, n = 0 ∨ n = 1 := fun n h => by
  rcases List.mem_cons.mp h with h | h
  · exact .inl h
  · obtain ⟨k, _, rfl⟩ := List.mem_map.mp h
    split
    · exact .inr rfl
    · exact .inl rfl
theorem eightL_len : ∀ l ∈ eightL, l.length = 9 := fun l h => by
  obtain ⟨i, _, rfl⟩ := List.mem_map.mp h
  simp [bareL]
theorem eightL_mem : ∀ l ∈ eightL, ∀ n ∈ l, n = 0 ∨ n = 1 := fun l h n hn => by
  obtain ⟨i, _, rfl⟩ := List.mem_map.mp h
  exact bareL_mem n hn
theorem turned_eight (c h0 h1 h2 h3 a0 a1 l0 l1 : Int) : turnedL [c, h0, h1, h2, h3, a0, a1, l0, l1] eightL = [c, h0 + l0, h1 + l1, h2, h3, a0, a1, 0, 0] := by
  unfold turnedL summedL eightL hands8 foldW
  simp [addW, addHead, bareL, List.range_succ, List.replicate_succ]
end My
namespace My
open PySem L2
theorem deedD_deed (c count : Int) : Deed (deedD c count) := by
  have h9 := lineBy_length (c / 11) [6, 7]
  unfold deedD
  split
  · exact ⟨_, rfl, by simp, fun d m => by
      simp only [List.mem_cons, List.not_mem_nil, or_false] at m
      rcases m with rfl | rfl | rfl
      · exact .inr (.inl ⟨_, rfl⟩)
      · exact .inl ⟨_, rfl⟩
      · exact .inr (.inr (.inl ⟨_, h9, rfl⟩))⟩
  split
  · exact ⟨_, rfl, by simp, fun d m => by
      simp only [List.mem_cons, List.not_mem_nil, or_false] at m
      rcases m with rfl | rfl | rfl | rfl
      · exact .inr (.inl ⟨_, rfl⟩)
      · exact .inl ⟨_, rfl⟩
      · exact .inr (.inr (.inl ⟨_, h9, rfl⟩))
      · exact .inl ⟨_, rfl⟩⟩
  split
  · exact ⟨_, rfl, by simp, fun d m => by
      simp only [List.mem_cons, List.not_mem_nil, or_false] at m
      rcases m with rfl | rfl | rfl | rfl
      · exact .inr (.inl ⟨_, rfl⟩)
      · exact .inl ⟨_, rfl⟩
      · exact .inl ⟨_, rfl⟩
      · exact .inl ⟨_, rfl⟩⟩
  split
  · exact ⟨_, rfl, by simp, fun d m => by
      simp only [List.mem_cons, List.not_mem_nil, or_false] at m
      rcases m with rfl | rfl | rfl
      · exact .inr (.inl ⟨_, rfl⟩)
      · exact .inr (.inr (.inl ⟨_, h9, rfl⟩))
      · exact .inl ⟨_, rfl⟩⟩
  split
  · exact ⟨_, rfl, by simp, fun d m => by
      simp only [List.mem_cons, List.not_mem_nil, or_false] at m
      rcases m with rfl | rfl
      · exact .inr (.inl ⟨_, rfl⟩)
      · exact .inr (.inr (.inl ⟨_, h9, rfl⟩))⟩
  · exact ⟨_, rfl, by simp, fun d m => by
      simp only [List.mem_cons, List.not_mem_nil, or_false] at m
      rcases m with rfl | rfl | rfl | rfl
      · exact .inr (.inl ⟨_, rfl⟩)
      · exact .inl ⟨_, rfl⟩
      · exact .inr (.inr (.inr ⟨_, _, rfl⟩))
      · exact .inr (.inr (.inr ⟨_, _, rfl⟩))⟩
theorem linesD_nine {c : Int} {zero : List Int} : ∀ l ∈ linesD c zero, l.length = 9 := fun l h => by
  obtain ⟨c', rfl⟩ := linesD_mem h
  exact lineBy_length _ _
/-- a leave's shape: no hands -/
theorem leave_shape {c : Int} {l : List Int} (h : l ∈ linesD c [0, 1, 2, 3]) : ∃ k a0 a1 l0 l1, l = [k, 0, 0, 0, 0, a0, a1, l0, l1] := by
  obtain ⟨c', rfl⟩ := linesD_mem h
  have h9 := lineBy_length c' [0, 1, 2, 3]
  have z0 := lineBy_zero (c := c') (zero := [0, 1, 2, 3]) (k := 0) (by decide) (by decide)
  have z1 := lineBy_zero (c := c') (zero := [0, 1, 2, 3]) (k := 1) (by decide) (by decide)
  have z2 := lineBy_zero (c := c') (zero := [0, 1, 2, 3]) (k := 2) (by decide) (by decide)
  have z3 := lineBy_zero (c := c') (zero := [0, 1, 2, 3]) (k := 3) (by decide) (by decide)
  generalize lineBy c' [0, 1, 2, 3] = l at *
  match l, h9 with
  | [a, b, c, d, e, f, g, h, i], _ =>
    simp at z0 z1 z2 z3
    subst z0 z1 z2 z3
    exact ⟨_, _, _, _, _, rfl⟩
end My

set_option Elab.async false
set_option linter.all false
set_option maxRecDepth 100000
namespace My
open PySem L2
/-! ### deeds by their forms, and what is right -/
inductive Dd where
  | set (hand : Int) (line : List Int) | part (hand : Int) (line : List Int) (by' : Int) | draw (hand low high : Int)
  | turn (line : List Int) (place : Int) | hold (line : List Int) | call (number g0 g1 t0 t1 : Int)
def toD : Dd → D
  | .set h l => .tup [.str "set", .int h, nums l]
  | .part h l b => .tup [.str "part", .int h, nums l, .int b]
  | .draw h lo hi => .tup [.str "draw", .int h, .int lo, .int hi]
  | .turn l p => .tup [.str "turn", nums l, .int p]
  | .hold l => .tup [.str "hold", nums l]
  | .call n g0 g1 t0 t1 => .tup [.str "call", .int n, .tup [.int g0, .int g1], .tup [.int t0, .int t1]]
def line9 : Dd → Prop
  | .set _ l => l.length = 9
  | .part _ l _ => l.length = 9
  | .turn l _ => l.length = 9
  | .hold l => l.length = 9
  | _ => True
def btw (a b c : Int) : Bool := decide (a ≤ b) && decide (b ≤ c)
def smallB (n : Int) : Bool := btw (-1000000000) n 1000000000
def lineOk (spots : List Nat) (l : List Int) : Bool := (l.map smallB).all id && (spots.map fun s => decide (l.getD s 0 = 0)).all id
def linesOk (spots : List Nat) (ls : List (List Int)) : Bool := decide ((ls.length : Int) ≤ 2) && (ls.map (lineOk spots)).all id
def handB (h : Int) : Bool := btw 0 h 3
def deedOk (n : Int) : Dd → Bool
  | .set h l => handB h && lineOk [7, 8] l
  | .part h l b => handB h && (lineOk [7, 8] l && btw 1 b 1000)
  | .draw h lo hi => handB h && (smallB lo && (smallB hi && decide (lo ≤ hi)))
  | .turn l p => lineOk [7, 8] l && btw 0 p n
  | .hold l => lineOk [7, 8] l
  | .call m g0 g1 t0 t1 => ([handB g0, handB g1].all id && [handB t0, handB t1].all id) && (btw 0 m 99 && !decide (t0 = t1))
def oathOk (needs leaves : List (List Int)) : Bool := linesOk [1, 2, 3, 4, 7, 8] needs && linesOk [1, 2, 3, 4] leaves
def deedsOk (deeds : List Dd) : Bool := btw 1 (deeds.length : Int) 8 && (deeds.map (deedOk (deeds.length : Int))).all id
def notesOk (deeds : List Dd) (notes : List (List (List Int))) : Bool := decide ((notes.length : Int) = (deeds.length : Int)) && (notes.map (linesOk [7, 8])).all id
def rightD (needs leaves : List (List Int)) (deeds : List Dd) (notes : List (List (List Int))) : Bool := oathOk needs leaves && (deedsOk deeds && notesOk deeds notes)
end My

set_option Elab.async false
set_option linter.all false
set_option maxRecDepth 100000
namespace My
open PySem L2
/-! ### what is made is right -/
def deedT (c count : Int) : Dd :=
  if mix c 4 6 = 0 then .set (mix c 3 4) (lineBy (c / 11) [6, 7])
  else if mix c 4 6 = 1 then .part (mix c 3 4) (lineBy (c / 11) [6, 7]) (byOf c)
  else if mix c 4 6 = 2 then .draw (mix c 3 4) (lowOf c) (highOf c)
  else if mix c 4 6 = 3 then .turn (lineBy (c / 11) [6, 7]) (mix c 9 (count + 1))
  else if mix c 4 6 = 4 then .hold (lineBy (c / 11) [6, 7])
  else .call (mix c 12 100) (mix c 10 4) (mix c 11 4) (mix c 3 4) ((mix c 3 4 + 1 + mix c 13 3) % 4)
theorem deedT_toD (c count : Int) : toD (deedT c count) = deedD c count := by
  unfold deedT deedD
  split
  · rfl
  split
  · rfl
  split
  · rfl
  split
  · rfl
  split <;> rfl
theorem deedT_line9 (c count : Int) : line9 (deedT c count) := by
  unfold deedT
  split
  · exact lineBy_length _ _
  split
  · exact lineBy_length _ _
  split
  · trivial
  split
  · exact lineBy_length _ _
  split
  · exact lineBy_length _ _
  · trivial
theorem all_id_map {α : Type} {l : List α} {f : α → Bool} (h : ∀ x ∈ l, f x = true) : (l.map f).all id = true := by
  rw [List.all_map]
  exact List.all_eq_true.mpr fun x m => h x m
theorem btw_true {a b c : Int} (h1 : a ≤ b) (h2 : b ≤ c) : btw a b c = true := by unfold btw; rw [decide_eq_true h1, decide_eq_true h2]; rfl
theorem lineOk_by {c : Int} {zero : List Int} {spots : List Nat} (h : ∀ s ∈ spots, ∃ k : Nat, s = k + 1 ∧ k < 8 ∧ (k : Int) ∈ zero) : lineOk spots (lineBy c zero) = true := by
  unfold lineOk
  rw [all_id_map fun x m => ?_, all_id_map fun s m => ?_]
  · rfl
  · obtain ⟨k, rfl, hk, hz⟩ := h s m
    exact decide_eq_true (lineBy_zero hk hz)
  · obtain ⟨h1, h2⟩ := lineBy_le x m
    exact btw_true h1 h2
theorem spots2 : ∀ s ∈ ([7, 8] : List Nat), ∃ k : Nat, s = k + 1 ∧ k < 8 ∧ (k : Int) ∈ ([6, 7] : List Int) := fun s m => by
  rcases List.mem_cons.mp m with z | m
  · exact ⟨6, z, by decide, by decide⟩
  · exact ⟨7, List.mem_singleton.mp m, by decide, by decide⟩
theorem spots4 : ∀ s ∈ ([1, 2, 3, 4] : List Nat), ∃ k : Nat, s = k + 1 ∧ k < 8 ∧ (k : Int) ∈ ([0, 1, 2, 3] : List Int) := fun s m => by
  have : s = 1 ∨ s = 2 ∨ s = 3 ∨ s = 4 := by simpa using m
  rcases this with z | z | z | z
  · exact ⟨0, z, by decide, by decide⟩
  · exact ⟨1, z, by decide, by decide⟩
  · exact ⟨2, z, by decide, by decide⟩
  · exact ⟨3, z, by decide, by decide⟩
theorem spots6 : ∀ s ∈ ([1, 2, 3, 4, 7, 8] : List Nat), ∃ k : Nat, s = k + 1 ∧ k < 8 ∧ (k : Int) ∈ ([0, 1, 2, 3, 6, 7] : List Int) := fun s m => by
  have : s = 1 ∨ s = 2 ∨ s = 3 ∨ s = 4 ∨ s = 7 ∨ s = 8 := by simpa using m
  rcases this with z | z | z | z | z | z
  · exact ⟨0, z, by decide, by decide⟩
  · exact ⟨1, z, by decide, by decide⟩
  · exact ⟨2, z, by decide, by decide⟩
  · exact ⟨3, z, by decide, by decide⟩
  · exact ⟨6, z, by decide, by decide⟩
  · exact ⟨7, z, by decide, by decide⟩
theorem linesOk_by {c : Int} {zero : List Int} {spots : List Nat} (h : ∀ s ∈ spots, ∃ k : Nat, s = k + 1 ∧ k < 8 ∧ (k : Int) ∈ zero) : linesOk spots (linesD c zero) = true := by
  unfold linesOk
  have := linesD_le c zero
  rw [decide_eq_true (by omega), all_id_map fun l m => ?_]
  · rfl
  · obtain ⟨c', rfl⟩ := linesD_mem m
    exact lineOk_by h
theorem hand_mix (c k : Int) : handB (mix c k 4) = true := by
  have h1 := mix_nonneg (c := c) (k := k) (m := 4) (by decide)
  have h2 := mix_lt (c := c) (k := k) (m := 4) (by decide)
  exact btw_true h1 (by omega)
theorem deedT_ok {c count : Int} (hc : 0 ≤ count) : deedOk count (deedT c count) = true := by
  unfold deedT
  split
  · simp only [deedOk]; rw [hand_mix, lineOk_by spots2]; rfl
  split
  · simp only [deedOk]; rw [hand_mix, lineOk_by spots2, Bool.true_and, Bool.true_and]
    unfold byOf
    have h1 := mix_nonneg (c := c) (k := 5) (m := 1000) (by decide)
    have h2 := mix_lt (c := c) (k := 5) (m := 1000) (by decide)
    split
    · exact btw_true (by decide) (by decide)
    split
    · exact btw_true (by decide) (by decide)
    split
    · exact btw_true (by omega) (by omega)
    · exact btw_true (by decide) (by decide)
  split
  · simp only [deedOk]
    obtain ⟨h1, h2⟩ := number_le (c / 13) 7
    obtain ⟨h3, h4⟩ := number_le (c / 17) 8
    have e1 : smallB (lowOf c) = true := btw_true h1 h2
    have e2 : smallB (highOf c) = true := by
      unfold highOf
      split
      · exact btw_true h3 h4
      · exact btw_true h1 h2
    have e3 : lowOf c ≤ highOf c := by
      unfold highOf
      split
      · omega
      · omega
    rw [hand_mix, e1, e2, decide_eq_true e3]; rfl
  split
  · simp only [deedOk]; rw [lineOk_by spots2, Bool.true_and]
    have h1 := mix_nonneg (c := c) (k := 9) (m := count + 1) (by omega)
    have h2 := mix_lt (c := c) (k := 9) (m := count + 1) (by omega)
    exact btw_true h1 (by omega)
  split
  · simp only [deedOk]; exact lineOk_by spots2
  · simp only [deedOk]
    have h1 := mix_nonneg (c := c) (k := 12) (m := 100) (by decide)
    have h2 := mix_lt (c := c) (k := 12) (m := 100) (by decide)
    have h3 := mix_nonneg (c := c) (k := 3) (m := 4) (by decide)
    have h4 := mix_lt (c := c) (k := 3) (m := 4) (by decide)
    have h5 := mix_nonneg (c := c) (k := 13) (m := 3) (by decide)
    have h6 := mix_lt (c := c) (k := 13) (m := 3) (by decide)
    have e1 : handB ((mix c 3 4 + 1 + mix c 13 3) % 4) = true := btw_true (by omega) (by omega)
    have e2 : ¬ mix c 3 4 = (mix c 3 4 + 1 + mix c 13 3) % 4 := by omega
    rw [btw_true h1 (by omega), decide_eq_false e2]
    simp [hand_mix, e1]
def deedsT (ns : List Int) (start count : Int) : List Dd := (List.range count.toNat).map fun (k : Nat) => deedT (cell ns (start + 2 + (0 + (k : Int)))) count
theorem deedsT_toD (ns : List Int) (start count : Int) : (deedsT ns start count).map toD = deedsL ns start count := by
  unfold deedsT deedsL
  rw [List.map_map]
  exact List.map_congr_left fun k _ => deedT_toD _ _
theorem right_true {ns : List Int} {start count : Int} (h1 : 1 ≤ count) (h8 : count ≤ 8) : rightD (needsL ns start) (leavesL ns start) (deedsT ns start count) (notesL ns start count) = true := by
  have ld : ((deedsT ns start count).length : Int) = count := by unfold deedsT; simp; omega
  have ln : ((notesL ns start count).length : Int) = count := by unfold notesL; simp; omega
  unfold rightD oathOk deedsOk notesOk needsL leavesL
  rw [linesOk_by spots6, linesOk_by spots4, ld, ln, decide_eq_true rfl, btw_true h1 h8, all_id_map fun d m => ?_, all_id_map fun ls m => ?_]
  · rfl
  · obtain ⟨k, _, rfl⟩ := List.mem_map.mp m
    exact linesOk_by spots2
  · obtain ⟨k, _, rfl⟩ := List.mem_map.mp m
    exact deedT_ok (by omega)
/-! ### what is spoilt is not right -/
theorem all_false {α : Type} {l : List α} {f : α → Bool} {x : α} (m : x ∈ l) (h : f x = false) : (l.map f).all id = false := by
  rw [List.all_map]
  exact List.all_eq_false.mpr ⟨x, m, by simp [h]⟩
def two (i a b : Int) : Int := if i = 0 then a else b
def three (i a b c : Int) : Int := if i = 0 then a else if i = 1 then b else c
def hurtLine (l zero : List Int) (c : Int) : List Int :=
  if c % 2 = 0 ∨ zero.length = 0 then l.set (if c / 2 % 2 = 0 then 0 else 5) (1000000001 * two (c / 4 % 2) 1 (-1))
  else l.set (1 + zero.getD (c / 2 % (zero.length : Int)).toNat 0).toNat (three (c / 20 % 3) 1 (-1) 1000000000)
theorem hurtLine_length (l zero : List Int) (c : Int) : (hurtLine l zero c).length = l.length := by
  unfold hurtLine
  split <;> rw [List.length_set]
theorem mem_set {l : List Int} {p : Nat} {v : Int} (h : p < l.length) : v ∈ l.set p v := List.mem_iff_getElem?.mpr ⟨p, by rw [List.getElem?_set_self h]⟩
theorem get_set {l : List Int} {p : Nat} {v : Int} (h : p < l.length) : (l.set p v).getD p 0 = v := by
  rw [List.getD_eq_getElem?_getD, List.getElem?_set_self h]; rfl
theorem hurtLine_bad {l zero : List Int} {c : Int} (h9 : l.length = 9) (hz : ∀ z ∈ zero, 0 ≤ z ∧ z < 8) {spots : List Nat} (hs : ∀ z ∈ zero, (1 + z).toNat ∈ spots) : lineOk spots (hurtLine l zero c) = false := by
  unfold hurtLine lineOk
  split
  · rw [all_false (mem_set (by split <;> omega)) (by unfold two smallB btw; split <;> decide)]; rfl
  · rename_i n
    have hl : zero.length ≠ 0 := fun e => n (.inr e)
    have b1 : 0 ≤ c / 2 % (zero.length : Int) := Int.emod_nonneg _ (by omega)
    have b2 : c / 2 % (zero.length : Int) < (zero.length : Int) := Int.emod_lt_of_pos _ (by omega)
    have hlt : (c / 2 % (zero.length : Int)).toNat < zero.length := by omega
    have hm : zero.getD (c / 2 % (zero.length : Int)).toNat 0 ∈ zero := by
      rw [List.getD_eq_getElem?_getD, List.getElem?_eq_getElem hlt]
      exact List.getElem_mem hlt
    obtain ⟨z0, z8⟩ := hz _ hm
    rw [all_false (x := (1 + zero.getD (c / 2 % (zero.length : Int)).toNat 0).toNat) (hs _ hm) ?_, Bool.and_false]
    rw [get_set (by omega)]
    unfold three
    split
    · decide
    split <;> decide
theorem zero2 : ∀ z ∈ ([6, 7] : List Int), 0 ≤ z ∧ z < 8 := by decide
theorem zero4 : ∀ z ∈ ([0, 1, 2, 3] : List Int), 0 ≤ z ∧ z < 8 := by decide
theorem zero6 : ∀ z ∈ ([0, 1, 2, 3, 6, 7] : List Int), 0 ≤ z ∧ z < 8 := by decide
theorem in2 : ∀ z ∈ ([6, 7] : List Int), (1 + z).toNat ∈ ([7, 8] : List Nat) := by decide
theorem in4 : ∀ z ∈ ([0, 1, 2, 3] : List Int), (1 + z).toNat ∈ ([1, 2, 3, 4] : List Nat) := by decide
theorem in6 : ∀ z ∈ ([0, 1, 2, 3, 6, 7] : List Int), (1 + z).toNat ∈ ([1, 2, 3, 4, 7, 8] : List Nat) := by decide
def zeros9 : List Int := List.replicate 9 0
def ins (c : Int) (ls : List (List Int)) : List (List Int) := ls.take (c / 3 % ((ls.length : Int) + 1)).toNat ++ zeros9 :: ls.drop (c / 3 % ((ls.length : Int) + 1)).toNat
theorem ins_length (c : Int) (ls : List (List Int)) : (ins c ls).length = ls.length + 1 := by
  unfold ins
  rw [List.length_append, List.length_cons, List.length_take, List.length_drop]
  omega
def padN : Nat → Int → List (List Int) → List (List Int)
  | 0, _, ls => ls
  | n + 1, c, ls => padN n c (ins c ls)
theorem padN_length : ∀ (n : Nat) (c : Int) (ls : List (List Int)), (padN n c ls).length = ls.length + n
  | 0, _, _ => rfl
  | n + 1, c, ls => by unfold padN; rw [padN_length n, ins_length]; omega
theorem ins_nine {c : Int} {ls : List (List Int)} (h : ∀ l ∈ ls, l.length = 9) : ∀ l ∈ ins c ls, l.length = 9 := fun l m => by
  unfold ins at m
  rcases List.mem_append.mp m with m | m
  · exact h l (List.mem_of_mem_take m)
  rcases List.mem_cons.mp m with m | m
  · subst m; simp [zeros9]
  · exact h l (List.mem_of_mem_drop m)
theorem padN_nine : ∀ (n : Nat) {c : Int} {ls : List (List Int)}, (∀ l ∈ ls, l.length = 9) → ∀ l ∈ padN n c ls, l.length = 9
  | 0, _, _, h => h
  | n + 1, c, ls, h => padN_nine n (ins_nine h)
def hurtLines (ls : List (List Int)) (zero : List Int) (c : Int) : List (List Int) :=
  if c % 3 = 0 ∨ ls.length = 0 then padN (3 - ls.length) c ls
  else ls.set (c / 3 % (ls.length : Int)).toNat (hurtLine (ls.getD (c / 3 % (ls.length : Int)).toNat []) zero (c / 6))
theorem hurtLines_nine {ls : List (List Int)} {zero : List Int} {c : Int} (h : ∀ l ∈ ls, l.length = 9) : ∀ l ∈ hurtLines ls zero c, l.length = 9 := by
  unfold hurtLines
  split
  · exact padN_nine _ h
  · rename_i n
    intro l m
    rcases List.mem_or_eq_of_mem_set m with m | m
    · exact h l m
    · subst m
      rw [hurtLine_length]
      have b1 : 0 ≤ c / 3 % (ls.length : Int) := Int.emod_nonneg _ (by omega)
      have b2 : c / 3 % (ls.length : Int) < (ls.length : Int) := Int.emod_lt_of_pos _ (by omega)
      rw [List.getD_eq_getElem?_getD, List.getElem?_eq_getElem (by omega)]
      exact h _ (List.getElem_mem _)
theorem hurtLines_len {ls : List (List Int)} {zero : List Int} {c : Int} (h : ls.length ≤ 2) : (hurtLines ls zero c).length ≤ 3 := by
  unfold hurtLines
  split
  · rw [padN_length]; omega
  · rw [List.length_set]; omega
theorem hurtLines_bad {ls : List (List Int)} {zero : List Int} {c : Int} (h2 : ls.length ≤ 2) (h9 : ∀ l ∈ ls, l.length = 9) (hz : ∀ z ∈ zero, 0 ≤ z ∧ z < 8) {spots : List Nat} (hs : ∀ z ∈ zero, (1 + z).toNat ∈ spots) : linesOk spots (hurtLines ls zero c) = false := by
  unfold hurtLines linesOk
  split
  · rw [padN_length, decide_eq_false (by omega)]; rfl
  · rename_i n
    have b1 : 0 ≤ c / 3 % (ls.length : Int) := Int.emod_nonneg _ (by omega)
    have b2 : c / 3 % (ls.length : Int) < (ls.length : Int) := Int.emod_lt_of_pos _ (by omega)
    have hlt : (c / 3 % (ls.length : Int)).toNat < ls.length := by omega
    rw [all_false (List.mem_iff_getElem?.mpr ⟨_, by rw [List.getElem?_set_self hlt]⟩) (hurtLine_bad ?_ hz hs), Bool.and_false]
    rw [List.getD_eq_getElem?_getD, List.getElem?_eq_getElem hlt]
    exact h9 _ (List.getElem_mem _)
def hurtDeed (count c : Int) : Dd → Dd
  | .call n g0 g1 t0 t1 => if c % 2 = 0 then .call (two (c / 2 % 2) 100 (-1)) g0 g1 t0 t1 else if c / 2 % 3 = 0 then .call n (two (c / 6 % 2) 4 (-1)) g1 t0 t1 else if c / 2 % 3 = 1 then .call n g0 g1 t0 (two (c / 6 % 2) 4 (-1)) else .call n g0 g1 t1 t1
  | .draw h lo hi => if c % 2 = 0 then .draw h (hi + 1) hi else if c / 2 % 4 = 0 then .draw 4 0 1 else if c / 2 % 4 = 1 then .draw (-1) 0 1 else if c / 2 % 4 = 2 then .draw 0 0 1000000001 else .draw 0 (-1000000001) 0
  | .hold l => .hold (hurtLine l [6, 7] (c / 2))
  | .turn l p => if c % 2 = 0 then .turn l (two (c / 2 % 2) (count + 1) (-1)) else .turn (hurtLine l [6, 7] (c / 2)) p
  | .part h l b => if c / 2 % 2 = 0 then .part h l (three (c / 4 % 3) 0 1001 (-1)) else if c % 2 = 0 then .part (two (c / 2 % 2) 4 (-1)) l b else .part h (hurtLine l [6, 7] (c / 4)) b
  | .set h l => if c % 2 = 0 then .set (two (c / 2 % 2) 4 (-1)) l else .set h (hurtLine l [6, 7] (c / 4))
theorem hand_bad (i : Int) : handB (two i 4 (-1)) = false := by unfold two; split <;> decide
theorem hurtDeed_line9 {count c : Int} {d : Dd} (h : line9 d) : line9 (hurtDeed count c d) := by
  cases d with
  | call n g0 g1 t0 t1 => simp only [hurtDeed]; split; trivial; split; trivial; split <;> trivial
  | draw h lo hi => simp only [hurtDeed]; split; trivial; split; trivial; split; trivial; split <;> trivial
  | hold l => exact (hurtLine_length _ _ _).trans h
  | turn l p =>
    simp only [hurtDeed]
    split
    · exact h
    · exact (hurtLine_length _ _ _).trans h
  | part hd l b =>
    simp only [hurtDeed]
    split
    · exact h
    split
    · exact h
    · exact (hurtLine_length _ _ _).trans h
  | set hd l =>
    simp only [hurtDeed]
    split
    · exact h
    · exact (hurtLine_length _ _ _).trans h
theorem hurtDeed_bad {count c : Int} {d : Dd} (h : line9 d) : deedOk count (hurtDeed count c d) = false := by
  have bad : ∀ {l : List Int} {x : Int}, l.length = 9 → lineOk [7, 8] (hurtLine l [6, 7] x) = false := fun h9 => hurtLine_bad h9 zero2 in2
  cases d with
  | call n g0 g1 t0 t1 =>
    simp only [hurtDeed]
    split
    · have e : btw 0 (two (c / 2 % 2) 100 (-1)) 99 = false := by unfold two; split <;> decide
      simp only [deedOk]; rw [e, Bool.false_and, Bool.and_false]
    split
    · simp only [deedOk]; rw [hand_bad]; rfl
    split
    · simp only [deedOk]; rw [hand_bad]; simp
    · simp only [deedOk]; simp
  | draw hd lo hi =>
    simp only [hurtDeed]
    split
    · simp only [deedOk]; rw [decide_eq_false (show ¬ hi + 1 ≤ hi by omega)]; simp
    split
    · simp only [deedOk]; decide
    split
    · simp only [deedOk]; decide
    split <;> (simp only [deedOk]; decide)
  | hold l => simp only [hurtDeed, deedOk]; exact bad h
  | turn l p =>
    simp only [hurtDeed]
    split
    · have e : btw 0 (two (c / 2 % 2) (count + 1) (-1)) count = false := by
        unfold two btw
        split
        · rw [decide_eq_false (show ¬ count + 1 ≤ count by omega), Bool.and_false]
        · rfl
      simp only [deedOk]; rw [e, Bool.and_false]
    · simp only [deedOk]; rw [bad h]; rfl
  | part hd l b =>
    simp only [hurtDeed]
    split
    · have e : btw 1 (three (c / 4 % 3) 0 1001 (-1)) 1000 = false := by
        unfold three
        split
        · decide
        split <;> decide
      simp only [deedOk]; rw [e, Bool.and_false, Bool.and_false]
    split
    · simp only [deedOk]; rw [hand_bad]; rfl
    · simp only [deedOk]; rw [bad h]; simp
  | set hd l =>
    simp only [hurtDeed]
    split
    · simp only [deedOk]; rw [hand_bad]; rfl
    · simp only [deedOk]; rw [bad h]; simp
end My

set_option Elab.async false
set_option linter.all false
set_option maxRecDepth 100000
namespace My
open PySem L2
/-! ### parts of a size that can be shown -/
def okN (n : Int) : Prop := -2000000000 ≤ n ∧ n ≤ 2000000000
def okL (l : List Int) : Prop := l.length = 9 ∧ ∀ n ∈ l, okN n
def okDd : Dd → Prop
  | .set h l => okN h ∧ okL l
  | .part h l b => okN h ∧ okL l ∧ okN b
  | .draw h lo hi => okN h ∧ okN lo ∧ okN hi
  | .turn l p => okL l ∧ okN p
  | .hold l => okL l
  | .call n g0 g1 t0 t1 => okN n ∧ okN g0 ∧ okN g1 ∧ okN t0 ∧ okN t1
structure Fine (needs leaves : List (List Int)) (deeds : List Dd) (notes : List (List (List Int))) : Prop where
  n : needs.length ≤ 3
  l : leaves.length ≤ 3
  d : deeds.length ≤ 9
  o : notes.length ≤ 9
  kn : ∀ l ∈ needs, okL l
  kl : ∀ l ∈ leaves, okL l
  kd : ∀ d ∈ deeds, okDd d
  ko : ∀ ls ∈ notes, ls.length ≤ 3 ∧ ∀ l ∈ ls, okL l
theorem okDd_line9 {d : Dd} (h : okDd d) : line9 d := by
  cases d with
  | set _ _ => exact h.2.1
  | part _ _ _ => exact h.2.1.1
  | draw _ _ _ => trivial
  | turn _ _ => exact h.1.1
  | hold _ => exact h.1
  | call _ _ _ _ _ => trivial
theorem btw_iff {a b c : Int} : btw a b c = true ↔ a ≤ b ∧ b ≤ c := by
  unfold btw
  rw [Bool.and_eq_true, decide_eq_true_eq, decide_eq_true_eq]
theorem all_id_iff {α : Type} {l : List α} {f : α → Bool} : (l.map f).all id = true ↔ ∀ x ∈ l, f x = true := by
  rw [List.all_map, List.all_eq_true]; rfl
theorem lineOk_small {spots : List Nat} {l : List Int} (h : lineOk spots l = true) : ∀ n ∈ l, -1000000000 ≤ n ∧ n ≤ 1000000000 := fun n hn => by
  unfold lineOk at h
  rw [Bool.and_eq_true] at h
  have := all_id_iff.mp h.1 n hn
  unfold smallB at this
  exact btw_iff.mp this
theorem lineOk_okL {spots : List Nat} {l : List Int} (h9 : l.length = 9) (h : lineOk spots l = true) : okL l := ⟨h9, fun n hn => by have := lineOk_small h n hn; unfold okN; omega⟩
theorem linesOk_ok {spots : List Nat} {ls : List (List Int)} (h9 : ∀ l ∈ ls, l.length = 9) (h : linesOk spots ls = true) : ls.length ≤ 2 ∧ ∀ l ∈ ls, okL l := by
  unfold linesOk at h
  rw [Bool.and_eq_true, decide_eq_true_eq] at h
  exact ⟨by omega, fun l hl => lineOk_okL (h9 l hl) (all_id_iff.mp h.2 l hl)⟩
theorem handB_iff {h : Int} : handB h = true ↔ 0 ≤ h ∧ h ≤ 3 := by unfold handB; exact btw_iff
theorem smallB_iff {h : Int} : smallB h = true ↔ -1000000000 ≤ h ∧ h ≤ 1000000000 := by unfold smallB; exact btw_iff
theorem deedOk_ok {n : Int} {d : Dd} (hn : n ≤ 100) (h9 : line9 d) (h : deedOk n d = true) : okDd d := by
  cases d with
  | set hd l =>
    simp only [deedOk, Bool.and_eq_true] at h
    have := handB_iff.mp h.1
    exact ⟨by unfold okN; omega, lineOk_okL h9 h.2⟩
  | part hd l b =>
    simp only [deedOk, Bool.and_eq_true] at h
    have := handB_iff.mp h.1
    have := btw_iff.mp h.2.2
    exact ⟨by unfold okN; omega, lineOk_okL h9 h.2.1, by unfold okN; omega⟩
  | draw hd lo hi =>
    simp only [deedOk, Bool.and_eq_true] at h
    have := handB_iff.mp h.1
    have := smallB_iff.mp h.2.1
    have := smallB_iff.mp h.2.2.1
    exact ⟨by unfold okN; omega, by unfold okN; omega, by unfold okN; omega⟩
  | turn l p =>
    simp only [deedOk, Bool.and_eq_true] at h
    have := btw_iff.mp h.2
    exact ⟨lineOk_okL h9 h.1, by unfold okN; omega⟩
  | hold l => exact lineOk_okL h9 h
  | call m g0 g1 t0 t1 =>
    simp only [deedOk, Bool.and_eq_true, List.all_cons, List.all_nil, id, Bool.and_true] at h
    have a := handB_iff.mp h.1.1.1
    have b := handB_iff.mp h.1.1.2
    have c := handB_iff.mp h.1.2.1
    have d := handB_iff.mp h.1.2.2
    have e := btw_iff.mp h.2.1
    refine ⟨?_, ?_, ?_, ?_, ?_⟩ <;> unfold okN <;> omega
theorem hurtLine_okL {l zero : List Int} {c : Int} (h : okL l) : okL (hurtLine l zero c) := by
  refine ⟨by rw [hurtLine_length]; exact h.1, fun n hn => ?_⟩
  unfold hurtLine at hn
  split at hn
  · rcases List.mem_or_eq_of_mem_set hn with z | z
    · exact h.2 n z
    · rw [z]; unfold two okN; split <;> omega
  · rcases List.mem_or_eq_of_mem_set hn with z | z
    · exact h.2 n z
    · rw [z]; unfold three okN; split
      · omega
      · split <;> omega
theorem hurtDeed_ok {n count c : Int} {d : Dd} (hn : n ≤ 100) (hc : -100 ≤ count ∧ count ≤ 100) (h9 : line9 d) (h : deedOk n d = true) : okDd (hurtDeed count c d) := by
  have k := deedOk_ok hn h9 h
  have two1 : ∀ i : Int, okN (two i 4 (-1)) := fun i => by unfold two okN; split <;> omega
  cases d with
  | set hd l =>
    simp only [hurtDeed]
    split
    · exact ⟨two1 _, k.2⟩
    · exact ⟨k.1, hurtLine_okL k.2⟩
  | part hd l b =>
    simp only [hurtDeed]
    split
    · exact ⟨k.1, k.2.1, by unfold three okN; split; omega; split <;> omega⟩
    split
    · exact ⟨two1 _, k.2.1, k.2.2⟩
    · exact ⟨k.1, hurtLine_okL k.2.1, k.2.2⟩
  | draw hd lo hi =>
    simp only [deedOk, Bool.and_eq_true] at h
    have := handB_iff.mp h.1
    have := smallB_iff.mp h.2.1
    have := smallB_iff.mp h.2.2.1
    simp only [hurtDeed]
    split
    · exact ⟨k.1, by unfold okN; omega, k.2.2⟩
    split
    · refine ⟨?_, ?_, ?_⟩ <;> unfold okN <;> omega
    split
    · refine ⟨?_, ?_, ?_⟩ <;> unfold okN <;> omega
    split
    · refine ⟨?_, ?_, ?_⟩ <;> unfold okN <;> omega
    · refine ⟨?_, ?_, ?_⟩ <;> unfold okN <;> omega
  | turn l p =>
    simp only [hurtDeed]
    split
    · exact ⟨k.1, by unfold two okN; split <;> omega⟩
    · exact ⟨hurtLine_okL k.1, k.2⟩
  | hold l => exact hurtLine_okL k
  | call m g0 g1 t0 t1 =>
    obtain ⟨k1, k2, k3, k4, k5⟩ := k
    simp only [hurtDeed]
    split
    · exact ⟨by unfold two okN; split <;> omega, k2, k3, k4, k5⟩
    split
    · exact ⟨k1, two1 _, k3, k4, k5⟩
    split
    · exact ⟨k1, k2, k3, k4, two1 _⟩
    · exact ⟨k1, k2, k3, k5, k5⟩
theorem ins_okL {c : Int} {ls : List (List Int)} (h : ∀ l ∈ ls, okL l) : ∀ l ∈ ins c ls, okL l := fun l m => by
  unfold ins at m
  rcases List.mem_append.mp m with m | m
  · exact h l (List.mem_of_mem_take m)
  rcases List.mem_cons.mp m with m | m
  · subst m
    refine ⟨by simp [zeros9], fun n hn => ?_⟩
    rw [(List.mem_replicate.mp hn).2]; unfold okN; omega
  · exact h l (List.mem_of_mem_drop m)
theorem padN_okL : ∀ (n : Nat) {c : Int} {ls : List (List Int)}, (∀ l ∈ ls, okL l) → ∀ l ∈ padN n c ls, okL l
  | 0, _, _, h => h
  | n + 1, _, _, h => padN_okL n (ins_okL h)
theorem hurtLines_okL {ls : List (List Int)} {zero : List Int} {c : Int} (h : ∀ l ∈ ls, okL l) : ∀ l ∈ hurtLines ls zero c, okL l := by
  unfold hurtLines
  split
  · exact padN_okL _ h
  · rename_i hz
    intro l hl
    rcases List.mem_or_eq_of_mem_set hl with z | z
    · exact h l z
    · rw [z]
      refine hurtLine_okL ?_
      rw [List.getD_eq_getElem?_getD]
      have h0 : ls.length ≠ 0 := fun e => hz (.inr e)
      have a := Int.emod_nonneg (c / 3) (show (ls.length : Int) ≠ 0 by omega)
      have b := Int.emod_lt_of_pos (c / 3) (show (0 : Int) < (ls.length : Int) by omega)
      rw [List.getElem?_eq_getElem (by omega)]
      exact h _ (List.getElem_mem _)
theorem right_parts {needs leaves : List (List Int)} {deeds : List Dd} {notes : List (List (List Int))} (h : rightD needs leaves deeds notes = true) :
    linesOk [1, 2, 3, 4, 7, 8] needs = true ∧ linesOk [1, 2, 3, 4] leaves = true ∧ (1 ≤ deeds.length ∧ deeds.length ≤ 8) ∧ (∀ d ∈ deeds, deedOk (deeds.length : Int) d = true) ∧ notes.length = deeds.length ∧ ∀ ls ∈ notes, linesOk [7, 8] ls = true := by
  unfold rightD oathOk deedsOk notesOk at h
  simp only [Bool.and_eq_true] at h
  obtain ⟨⟨h1, h2⟩, ⟨h3, h4⟩, h5, h6⟩ := h
  have := btw_iff.mp h3
  have h5' := of_decide_eq_true h5
  exact ⟨h1, h2, ⟨by omega, by omega⟩, all_id_iff.mp h4, by omega, all_id_iff.mp h6⟩
theorem fine_right {needs leaves : List (List Int)} {deeds : List Dd} {notes : List (List (List Int))} (n9 : ∀ l ∈ needs, l.length = 9) (l9 : ∀ l ∈ leaves, l.length = 9) (d9 : ∀ d ∈ deeds, line9 d) (o9 : ∀ ls ∈ notes, ∀ l ∈ ls, l.length = 9) (h : rightD needs leaves deeds notes = true) : Fine needs leaves deeds notes := by
  obtain ⟨h1, h2, h3, h4, h5, h6⟩ := right_parts h
  obtain ⟨a1, a2⟩ := linesOk_ok n9 h1
  obtain ⟨b1, b2⟩ := linesOk_ok l9 h2
  exact { n := by omega, l := by omega, d := by omega, o := by omega, kn := a2, kl := b2, kd := fun d hd => deedOk_ok (by omega) (d9 d hd) (h4 d hd), ko := fun ls hls => by obtain ⟨c1, c2⟩ := linesOk_ok (o9 ls hls) (h6 ls hls); exact ⟨by omega, c2⟩ }
section
variable {needs leaves : List (List Int)} {deeds : List Dd} {notes : List (List (List Int))}
theorem bad_needs {ls : List (List Int)} (h : linesOk [1, 2, 3, 4, 7, 8] ls = false) : rightD ls leaves deeds notes = false := by
  unfold rightD oathOk; rw [h]; rfl
theorem bad_leaves {ls : List (List Int)} (h : linesOk [1, 2, 3, 4] ls = false) : rightD needs ls deeds notes = false := by
  unfold rightD oathOk; rw [h, Bool.and_false]; rfl
theorem bad_notes {os : List (List (List Int))} {ls : List (List Int)} (m : ls ∈ os) (h : linesOk [7, 8] ls = false) : rightD needs leaves deeds os = false := by
  unfold rightD notesOk; rw [all_false m h]; simp
theorem bad_count {os : List (List (List Int))} (h : os.length ≠ deeds.length) : rightD needs leaves deeds os = false := by
  unfold rightD notesOk; rw [decide_eq_false (show ¬ ((os.length : Int) = (deeds.length : Int)) by omega)]; simp
theorem bad_many {ds : List Dd} {os : List (List (List Int))} (h : ds.length = 0 ∨ 8 < ds.length) : rightD needs leaves ds os = false := by
  unfold rightD deedsOk btw
  rcases h with h | h
  · rw [decide_eq_false (show ¬ ((1 : Int) ≤ (ds.length : Int)) by omega)]; simp
  · rw [decide_eq_false (show ¬ ((ds.length : Int) ≤ 8) by omega)]; simp
theorem bad_deed {ds : List Dd} {d : Dd} (m : d ∈ ds) (h : deedOk (ds.length : Int) d = false) : rightD needs leaves ds notes = false := by
  unfold rightD deedsOk; rw [all_false m h]; simp
end
/-! ### the cost of showing them -/
theorem cost_line {l : List Int} (h : l.length = 9) : cost (nums l) ≤ 309 := by
  unfold cost
  have := costs_le (c := 32) (ds := l.map D.int) fun d hd => by
    obtain ⟨n, _, rfl⟩ := List.mem_map.mp hd
    unfold cost; exact Nat.le_refl _
  rw [List.length_map, h] at this
  omega
theorem cost_lines {ls : List (List Int)} (h : ls.length ≤ 3) (h9 : ∀ l ∈ ls, okL l) : cost (linesV ls) ≤ 936 := by
  unfold linesV cost
  have := costs_le (c := 309) (ds := ls.map nums) fun d hd => by
    obtain ⟨l, hl, rfl⟩ := List.mem_map.mp hd
    exact cost_line (h9 l hl).1
  rw [List.length_map] at this
  have : ls.length * 311 ≤ 3 * 311 := Nat.mul_le_mul_right _ h
  omega
theorem slim_int {n : Int} (h : okN n) : Slim (.int n) := by
  unfold Slim
  unfold okN at h
  have : (2000000001 : Nat) ≤ intMost := by decide +kernel
  omega
theorem slim_line {l : List Int} (h : okL l) : Slim (nums l) := by
  unfold Slim
  exact slims_of fun d hd => by
    obtain ⟨n, hn, rfl⟩ := List.mem_map.mp hd
    exact slim_int (h.2 n hn)
theorem slim_lines {ls : List (List Int)} (h : ∀ l ∈ ls, okL l) : Slim (linesV ls) := by
  unfold linesV Slim
  exact slims_of fun d hd => by
    obtain ⟨l, hl, rfl⟩ := List.mem_map.mp hd
    exact slim_line (h l hl)
theorem slim_str {x : Str} : Slim (.str x) := by unfold Slim; trivial
theorem slim_deed {d : Dd} (h : okDd d) : Slim (toD d) := by
  cases d with
  | set hd l => unfold toD Slim; exact ⟨slim_str, slim_int h.1, slim_line h.2, trivial⟩
  | part hd l b => unfold toD Slim; exact ⟨slim_str, slim_int h.1, slim_line h.2.1, slim_int h.2.2, trivial⟩
  | draw hd lo hi => unfold toD Slim; exact ⟨slim_str, slim_int h.1, slim_int h.2.1, slim_int h.2.2, trivial⟩
  | turn l p => unfold toD Slim; exact ⟨slim_str, slim_line h.1, slim_int h.2, trivial⟩
  | hold l => unfold toD Slim; exact ⟨slim_str, slim_line h, trivial⟩
  | call m g0 g1 t0 t1 =>
    unfold toD Slim
    refine ⟨slim_str, slim_int h.1, ?_, ?_, trivial⟩
    · unfold Slim; exact ⟨slim_int h.2.1, slim_int h.2.2.1, trivial⟩
    · unfold Slim; exact ⟨slim_int h.2.2.2.1, slim_int h.2.2.2.2, trivial⟩
theorem cost_words : cost (.str "set") ≤ 20 ∧ cost (.str "part") ≤ 20 ∧ cost (.str "draw") ≤ 20 ∧ cost (.str "turn") ≤ 20 ∧ cost (.str "hold") ≤ 20 ∧ cost (.str "call") ≤ 20 := by
  unfold cost; decide +kernel
theorem cost_int {n : Int} : cost (.int n) = 32 := by unfold cost; rfl
theorem cost_pair {i j : Int} : cost (.tup [.int i, .int j]) = 71 := by
  unfold cost costs costs costs; rw [cost_int, cost_int]
theorem cost_deed {d : Dd} (h : okDd d) : cost (toD d) ≤ 600 := by
  obtain ⟨c1, c2, c3, c4, c5, c6⟩ := cost_words
  cases d with
  | set hd l => have := cost_line h.2.1; unfold toD; rw [cost]; simp only [costs, cost_int]; omega
  | part hd l b => have := cost_line h.2.1.1; unfold toD; rw [cost]; simp only [costs, cost_int]; omega
  | draw hd lo hi => unfold toD; rw [cost]; simp only [costs, cost_int]; omega
  | turn l p => have := cost_line h.1.1; unfold toD; rw [cost]; simp only [costs, cost_int]; omega
  | hold l => have := cost_line h.1; unfold toD; rw [cost]; simp only [costs, cost_int]; omega
  | call m g0 g1 t0 t1 => unfold toD; rw [cost]; simp only [costs, cost_int, cost_pair]; omega
end My

set_option Elab.async false
set_option linter.all false
set_option maxRecDepth 100000
set_option maxHeartbeats 8000000
local macro_rules | `(tactic| walk_at "gs1") => `(tactic| first
  | with_reducible refine L2.i_asg ?_
  | with_reducible refine L2.i_gname ?_
  | with_reducible refine L2.i_ret ?_
  | with_reducible refine L2.i_drop ?_
  | with_reducible refine L2.i_next ?_
  | with_reducible refine L2.i_ifS ?_
  | with_reducible refine L2.i_if ?_
  | with_reducible refine L2.i_test ?_
  | with_reducible refine L2.i_B ?_
  | with_reducible refine L2.i_bl ?_
  | with_reducible refine L2.iteT ?_
  | with_reducible refine L2.iteF ?_
  | with_reducible refine L2.iteNT ?_
  | with_reducible refine L2.iteNF ?_
  | with_reducible refine L2.i_pow109 ?_
  | with_reducible refine L2.i_bm ?_
  | with_reducible refine L2.i_make ?_
  | with_reducible refine L2.i_fld ?_
  | with_reducible refine L2.i_sfld ?_
  | with_reducible refine L2.i_chain ?_
  | with_reducible refine L2.i_andV ?_
  | with_reducible refine L2.i_orV ?_
  | with_reducible refine L2.i_notV ?_
  | with_reducible refine L2.i_and ?_
  | with_reducible refine L2.i_or ?_
  | with_reducible refine L2.i_not ?_
  | with_reducible refine L2.i_for ?_
  | with_reducible refine L2.i_comp ?_
  | with_reducible refine L2.i_ilist ?_
  | with_reducible refine L2.i_itup ?_
  | with_reducible refine L2.i_zip ?_
  | with_reducible refine L2.i_enum ?_
  | with_reducible refine L2.i_rev ?_
  | with_reducible refine L2.i_rng1 ?_
  | with_reducible refine L2.i_rng2 ?_
  | with_reducible refine L2.i_sl ?_
  | with_reducible refine L2.i_nopart ?_
  | with_reducible refine L2.i_part ?_
  | with_reducible refine L2.i_parti ?_
  | with_reducible refine L2.i_par ?_
  | with_reducible refine L2.i_parv ?_
  | with_reducible refine L2.i_gsub ?_
  | with_reducible refine L2.i_c ?_
  | with_reducible refine L2.i_op ?_
  | with_reducible refine L2.i_un ?_
  | with_reducible refine L2.i_cons ?_
  | with_reducible refine L2.i_nil ?_
  | with_reducible refine L2.i_call ?_
  | with_reducible refine L2.i_CB ?_
  | with_reducible refine L2.i_lst ?_
  | with_reducible refine L2.i_tup ?_
  | with_reducible refine L2.i_rI0 ?_
  | with_reducible refine L2.i_rU ?_
  | with_reducible refine L2.i_plusI ?_
  | with_reducible refine L2.i_eqI ?_
  | with_reducible refine L2.i_neI ?_
  | with_reducible refine L2.i_eqB ?_
  | with_reducible refine L2.i_neB ?_
  | with_reducible refine L2.i_eqS ?_
  | ((with_reducible refine L2.i_timesI ?_ ?_); focus (first | exact Or.inl ⟨by omega, by omega⟩ | exact Or.inr ⟨by omega, by omega⟩))
  | ((with_reducible refine L2.i_mod ?_ ?_); focus omega)
  | ((with_reducible refine L2.i_fdiv ?_ ?_ ?_); (focus omega); (focus omega))
  | ((with_reducible refine L2.i_pow ?_ ?_ ?_ ?_); (focus decide); (focus decide); (focus decide))
  | ((with_reducible refine L2.i_var (v := ?_) ?_ ?_); rotate_left; focus rfl))
local macro_rules | `(tactic| walk_at "go1") => `(tactic| first | with_reducible refine L2.i_seq ?_ | walk_at "gs1" | (refine L2.i_var (by rfl) ?_))
local macro_rules | `(tactic| walk_at "gs") => `(tactic| repeat (walk_at "gs1"))
local macro_rules | `(tactic| walk_at "go") => `(tactic| repeat (walk_at "go1"))
namespace My
open PySem L2 PyProof.Rows
def top (i : Nat) : Stmt := PySem.Challenge.pw_swornhall_k07_right_crafts.main.body.getD i (.Pass ⟨0, 0, 0, 0⟩)
abbrev s_Craft___init__ : Stmt := inClass (top 9) 0
abbrev s_copied_lines : Stmt := top 10
abbrev s_copied_deed : Stmt := top 11
abbrev s_right : Stmt := top 12
abbrev s_oath_right : Stmt := top 13
abbrev s_deeds_right : Stmt := top 14
abbrev s_notes_right : Stmt := top 15
abbrev s_lines_right : Stmt := top 16
abbrev s_line_right : Stmt := top 17
abbrev s_deed_right : Stmt := top 18
abbrev s_range_right : Stmt := top 19
abbrev s_call_right : Stmt := top 20
abbrev s_two_hands_right : Stmt := top 21
abbrev s_hand_right : Stmt := top 22
abbrev s_small_enough : Stmt := top 23
abbrev s_between : Stmt := top 24
abbrev s_l_cell_at : Stmt := top 26
abbrev s_l_mix : Stmt := top 27
abbrev s_l_number : Stmt := top 28
abbrev s_l_line_by : Stmt := top 29
abbrev s_l_deed_by : Stmt := top 30
abbrev s_l_lines_by : Stmt := top 31
abbrev s_l_parts_by : Stmt := top 32
abbrev s_l_hurt_line : Stmt := top 33
abbrev s_l_hurt_deed : Stmt := top 34
abbrev s_l_hurt_lines : Stmt := top 35
abbrev s_l_hurt : Stmt := top 36
abbrev s_law : Stmt := top 37
theorem sc_Craft___init__ : FnScope ["self", "needs", "leaves", "deeds", "notes"] ["self", "needs", "leaves", "deeds", "notes"] (defScope s_Craft___init__) := ⟨rfl, rfl, rfl, by decide +kernel, rfl, by decide +kernel, by decide +kernel⟩
theorem sc_copied_lines : FnScope ["lines"] ["lines"] (defScope s_copied_lines) := ⟨rfl, rfl, rfl, by decide +kernel, rfl, by decide +kernel, by decide +kernel⟩
theorem sc_copied_deed : FnScope ["deed"] ["deed"] (defScope s_copied_deed) := ⟨rfl, rfl, rfl, by decide +kernel, rfl, by decide +kernel, by decide +kernel⟩
theorem sc_right : FnScope ["craft"] ["craft"] (defScope s_right) := ⟨rfl, rfl, rfl, by decide +kernel, rfl, by decide +kernel, by decide +kernel⟩
theorem sc_oath_right : FnScope ["craft", "needs_right"] ["craft"] (defScope s_oath_right) := ⟨rfl, rfl, rfl, by decide +kernel, rfl, by decide +kernel, by decide +kernel⟩
theorem sc_deeds_right : FnScope ["deeds", "count"] ["deeds"] (defScope s_deeds_right) := ⟨rfl, rfl, rfl, by decide +kernel, rfl, by decide +kernel, by decide +kernel⟩
theorem sc_notes_right : FnScope ["craft", "as_many"] ["craft"] (defScope s_notes_right) := ⟨rfl, rfl, rfl, by decide +kernel, rfl, by decide +kernel, by decide +kernel⟩
theorem sc_lines_right : FnScope ["lines", "nought_spots"] ["lines", "nought_spots"] (defScope s_lines_right) := ⟨rfl, rfl, rfl, by decide +kernel, rfl, by decide +kernel, by decide +kernel⟩
theorem sc_line_right : FnScope ["line", "nought_spots", "small"] ["line", "nought_spots"] (defScope s_line_right) := ⟨rfl, rfl, rfl, by decide +kernel, rfl, by decide +kernel, by decide +kernel⟩
theorem sc_deed_right : FnScope ["deed", "last_place", "kind"] ["deed", "last_place"] (defScope s_deed_right) := ⟨rfl, rfl, rfl, by decide +kernel, rfl, by decide +kernel, by decide +kernel⟩
theorem sc_range_right : FnScope ["low", "high"] ["low", "high"] (defScope s_range_right) := ⟨rfl, rfl, rfl, by decide +kernel, rfl, by decide +kernel, by decide +kernel⟩
theorem sc_call_right : FnScope ["number", "given", "taken", "hands"] ["number", "given", "taken"] (defScope s_call_right) := ⟨rfl, rfl, rfl, by decide +kernel, rfl, by decide +kernel, by decide +kernel⟩
theorem sc_two_hands_right : FnScope ["hands"] ["hands"] (defScope s_two_hands_right) := ⟨rfl, rfl, rfl, by decide +kernel, rfl, by decide +kernel, by decide +kernel⟩
theorem sc_hand_right : FnScope ["hand"] ["hand"] (defScope s_hand_right) := ⟨rfl, rfl, rfl, by decide +kernel, rfl, by decide +kernel, by decide +kernel⟩
theorem sc_small_enough : FnScope ["number"] ["number"] (defScope s_small_enough) := ⟨rfl, rfl, rfl, by decide +kernel, rfl, by decide +kernel, by decide +kernel⟩
theorem sc_between : FnScope ["low", "number", "high"] ["low", "number", "high"] (defScope s_between) := ⟨rfl, rfl, rfl, by decide +kernel, rfl, by decide +kernel, by decide +kernel⟩
theorem sc_l_cell_at : FnScope ["script", "k"] ["script", "k"] (defScope s_l_cell_at) := ⟨rfl, rfl, rfl, by decide +kernel, rfl, by decide +kernel, by decide +kernel⟩
theorem sc_l_mix : FnScope ["cell", "k", "many"] ["cell", "k", "many"] (defScope s_l_mix) := ⟨rfl, rfl, rfl, by decide +kernel, rfl, by decide +kernel, by decide +kernel⟩
theorem sc_l_number : FnScope ["cell", "k", "kind"] ["cell", "k"] (defScope s_l_number) := ⟨rfl, rfl, rfl, by decide +kernel, rfl, by decide +kernel, by decide +kernel⟩
theorem sc_l_line_by : FnScope ["cell", "zero", "line", "k"] ["cell", "zero"] (defScope s_l_line_by) := ⟨rfl, rfl, rfl, by decide +kernel, rfl, by decide +kernel, by decide +kernel⟩
theorem sc_l_deed_by : FnScope ["cell", "count", "line", "hand", "kind", "low", "given"] ["cell", "count"] (defScope s_l_deed_by) := ⟨rfl, rfl, rfl, by decide +kernel, rfl, by decide +kernel, by decide +kernel⟩
theorem sc_l_lines_by : FnScope ["cell", "zero"] ["cell", "zero"] (defScope s_l_lines_by) := ⟨rfl, rfl, rfl, by decide +kernel, rfl, by decide +kernel, by decide +kernel⟩
theorem sc_l_parts_by : FnScope ["script", "start", "count", "needs", "leaves", "deeds", "notes"] ["script", "start", "count"] (defScope s_l_parts_by) := ⟨rfl, rfl, rfl, by decide +kernel, rfl, by decide +kernel, by decide +kernel⟩
theorem sc_l_hurt_line : FnScope ["line", "zero", "cell", "found", "at"] ["line", "zero", "cell"] (defScope s_l_hurt_line) := ⟨rfl, rfl, rfl, by decide +kernel, rfl, by decide +kernel, by decide +kernel⟩
theorem sc_l_hurt_deed : FnScope ["deed", "count", "cell", "way", "bad"] ["deed", "count", "cell"] (defScope s_l_hurt_deed) := ⟨rfl, rfl, rfl, by decide +kernel, rfl, by decide +kernel, by decide +kernel⟩
theorem sc_l_hurt_lines : FnScope ["lines", "zero", "cell", "found", "at"] ["lines", "zero", "cell"] (defScope s_l_hurt_lines) := ⟨rfl, rfl, rfl, by decide +kernel, rfl, by decide +kernel, by decide +kernel⟩
theorem sc_l_hurt : FnScope ["parts", "way", "cell", "needs", "leaves", "deeds", "notes", "count", "at", "spoilt", "many", "some"] ["parts", "way", "cell"] (defScope s_l_hurt) := ⟨rfl, rfl, rfl, by decide +kernel, rfl, by decide +kernel, by decide +kernel⟩
theorem sc_law : FnScope ["script", "count", "parts", "good", "craft", "kept", "found", "again"] ["script"] (defScope s_law) := ⟨rfl, rfl, rfl, by decide +kernel, rfl, by decide +kernel, by decide +kernel⟩
structure Bl (K : PySem.W.Frag) (mg : Str → Option Value) : Prop where
  all : mg "all" = none
  bool : mg "bool" = none
  enumerate : mg "enumerate" = none
  isinstance : mg "isinstance" = none
  len : mg "len" = none
  list : mg "list" = none
  max : mg "max" = none
  range : mg "range" = none
  repr : mg "repr" = none
  tuple : mg "tuple" = none
  c_MOST_LINES : ∃ t, mg "MOST_LINES" = some (.int 2 t)
  c_MOST_DEEDS : ∃ t, mg "MOST_DEEDS" = some (.int 8 t)
  c_LAST_HAND : ∃ t, mg "LAST_HAND" = some (.int 3 t)
  c_LAST_NUMBER : ∃ t, mg "LAST_NUMBER" = some (.int 99 t)
  c_GREATEST_BY : ∃ t, mg "GREATEST_BY" = some (.int 1000 t)
  c_GREATEST : ∃ t, mg "GREATEST" = some (.int 1000000000 t)
  t_HAND_SPOTS : ∃ a, mg "HAND_SPOTS" = some (.ref a) ∧ ∀ H, SqT K H a [.int 1, .int 2, .int 3, .int 4]
  t_LEFT_SPOTS : ∃ a, mg "LEFT_SPOTS" = some (.ref a) ∧ ∀ H, SqT K H a [.int 7, .int 8]
structure Zt (K : PySem.W.Frag) (mg : Str → Option Value) (C : Nat → Addr) : Prop where
  c_Craft : Cls K (C 0)
  m_Craft : mg "Craft" = some (.ref (C 0))
  n_Craft_needs : NoAttr K (C 0) "needs"
  n_Craft_leaves : NoAttr K (C 0) "leaves"
  n_Craft_deeds : NoAttr K (C 0) "deeds"
  n_Craft_notes : NoAttr K (C 0) "notes"
section
variable {P : Program} {w : World} {K : PySem.W.Frag} {mg : Str → Option Value} {base : Heap}
def sp_copied_lines (K : PySem.W.Frag) : Sp := fun vs H Q _ => ∃ (a : Addr) (ls : List (List Int)), vs = [.ref a] ∧ Rep K H (linesV ls) (.ref a) ∧ ls.length ≤ 1000 ∧ ∀ v H', Same H H' → New H H' (linesV ls) v → Q v H'
theorem fn_copied_lines {f : Addr} {fd : FuncData} (B : Bl K mg) {C : Nat → Addr} (Z : Zt K mg C)  (F : Fun K "copied_lines" "copied_lines" s_copied_lines f fd) (m : mg "copied_lines" = some (.ref f)) : Fn P w K mg base "copied_lines" ["lines"] 1 (sp_copied_lines K) := by
  refine Fn.of (k := 0) F sc_copied_lines m (fun _ _ _ _ _ _ us hl => match us, hl with | [_], _ => rfl) (fun vs H Q E h => ?_) (fun cdv A outer s H vs Q E hr h => ?_)
  · first
    | (obtain ⟨rfl, _⟩ := h; rfl)
    | (obtain ⟨_, rfl, _⟩ := h; rfl)
    | (obtain ⟨_, _, rfl, _⟩ := h; rfl)
    | (obtain ⟨_, _, _, rfl, _⟩ := h; rfl)
    | (obtain ⟨_, _, _, _, rfl, _⟩ := h; rfl)
    | (obtain ⟨_, _, _, _, _, rfl, _⟩ := h; rfl)
    | (obtain ⟨_, _, _, _, _, _, rfl, _⟩ := h; rfl)
    | (obtain ⟨_, _, _, _, _, _, _, rfl, _⟩ := h; rfl)
    | (obtain ⟨_, _, _, _, _, _, _, _, rfl, _⟩ := h; rfl)
    | (obtain ⟨_, _, _, _, _, _, _, _, _, rfl, _⟩ := h; rfl)
    | (obtain ⟨_, _, _, _, _, _, _, _, _, _, rfl, _⟩ := h; rfl)
    | (obtain ⟨_, _, _, _, _, _, _, _, _, _, _, rfl, _⟩ := h; rfl)
    | (obtain ⟨_, _, _, _, _, _, _, _, _, _, _, _, rfl, _⟩ := h; rfl)
    | (obtain ⟨_, _, _, _, _, _, _, _, _, _, _, _, _, rfl, _⟩ := h; rfl)
    | (obtain ⟨_, _, _, _, _, _, _, _, _, _, _, _, _, _, rfl, _⟩ := h; rfl)
    | (obtain ⟨_, _, _, _, _, _, _, _, _, _, _, _, _, _, _, rfl, _⟩ := h; rfl)
    | (obtain ⟨_, _, _, _, _, _, _, _, _, _, _, _, _, _, _, _, rfl, _⟩ := h; rfl)
  obtain ⟨a, ls, rfl, hA, hl, q⟩ := h
  refine ⟨_, (pss_one (ps_ret (pe_comp rfl (CompOk.mk' (sc0 := defScope s_copied_lines) (N := ["lines"]) (N' := ["lines", "line"]) (ms := [false, true]) rfl (by decide +kernel) (by decide +kernel) (by decide +kernel) rfl (by decide +kernel)) (k_ilist K (pv 0)) (fun _ _ _ _ _ => (pg_name (i := 1) (show List.Nodup (["lines", "line"] : List Str) by decide +kernel) rfl (Or.inl rfl))) (fun _ _ _ _ _ => pifs_nil) (fun _ _ _ _ _ => (pe_callTy (k_list K) rfl B.list L2.boot_list (pa_name (pv 1) pa_nil)))))), ?_⟩
  unfold linesV Rep at hA
  obtain ⟨a', xs, e, hA, hx⟩ := hA
  cases e
  have lx := hx.length
  rw [List.length_map] at lx
  walk_at "go"
  refine ⟨a, rfl, ⟨_, hA⟩, ?_⟩
  refine comp_gen (goes_list hA) (ls.map nums) (by rw [List.length_map]; omega) (small_le (by omega)) (fun j x' d H4 R hj hd s4 hx' hR => ?_) (fun v H4 s4 n4 => ?_)
  · obtain ⟨d2, hd2, hrx⟩ := Reps.get' hx hx'
    rw [hd2] at hd; cases hd
    rw [List.getElem?_map] at hd2
    obtain ⟨l, hl, rfl⟩ := Option.map_eq_some_iff.mp hd2
    obtain ⟨xa, rfl, hxa⟩ := rep_ints.mp (Rep.same s4 _ hrx)
    walk_at "go"
    refine i_listof (.inl hxa) fun p hp => ?_
    exact hR _ _ (same_upd hp _) (New.ints_iff.mpr ⟨p, rfl, hp, upd_same⟩)
  exact q _ _ s4 n4
def sp_copied_deed (K : PySem.W.Frag) : Sp := fun vs H Q _ => ∃ (v : V) (d : D), vs = [v] ∧ DeedRep H d v ∧ ∀ v' H', Same H H' → New H H' d v' → Q v' H'
theorem fn_copied_deed {f : Addr} {fd : FuncData} (B : Bl K mg) {C : Nat → Addr} (Z : Zt K mg C)  (F : Fun K "copied_deed" "copied_deed" s_copied_deed f fd) (m : mg "copied_deed" = some (.ref f)) : Fn P w K mg base "copied_deed" ["deed"] 1 (sp_copied_deed K) := by
  refine Fn.of (k := 0) F sc_copied_deed m (fun _ _ _ _ _ _ us hl => match us, hl with | [_], _ => rfl) (fun vs H Q E h => ?_) (fun cdv A outer s H vs Q E hr h => ?_)
  · first
    | (obtain ⟨rfl, _⟩ := h; rfl)
    | (obtain ⟨_, rfl, _⟩ := h; rfl)
    | (obtain ⟨_, _, rfl, _⟩ := h; rfl)
    | (obtain ⟨_, _, _, rfl, _⟩ := h; rfl)
    | (obtain ⟨_, _, _, _, rfl, _⟩ := h; rfl)
    | (obtain ⟨_, _, _, _, _, rfl, _⟩ := h; rfl)
    | (obtain ⟨_, _, _, _, _, _, rfl, _⟩ := h; rfl)
    | (obtain ⟨_, _, _, _, _, _, _, rfl, _⟩ := h; rfl)
    | (obtain ⟨_, _, _, _, _, _, _, _, rfl, _⟩ := h; rfl)
    | (obtain ⟨_, _, _, _, _, _, _, _, _, rfl, _⟩ := h; rfl)
    | (obtain ⟨_, _, _, _, _, _, _, _, _, _, rfl, _⟩ := h; rfl)
    | (obtain ⟨_, _, _, _, _, _, _, _, _, _, _, rfl, _⟩ := h; rfl)
    | (obtain ⟨_, _, _, _, _, _, _, _, _, _, _, _, rfl, _⟩ := h; rfl)
    | (obtain ⟨_, _, _, _, _, _, _, _, _, _, _, _, _, rfl, _⟩ := h; rfl)
    | (obtain ⟨_, _, _, _, _, _, _, _, _, _, _, _, _, _, rfl, _⟩ := h; rfl)
    | (obtain ⟨_, _, _, _, _, _, _, _, _, _, _, _, _, _, _, rfl, _⟩ := h; rfl)
    | (obtain ⟨_, _, _, _, _, _, _, _, _, _, _, _, _, _, _, _, rfl, _⟩ := h; rfl)
  obtain ⟨v, d, rfl, hd, q⟩ := h
  refine ⟨_, (pss_one (ps_ret (pe_callTy (k_tuple K) rfl B.tuple L2.boot_tuple (pa_comp (pe_comp rfl (CompOk.mk' (sc0 := defScope s_copied_deed) (N := ["deed"]) (N' := ["deed", "part"]) (ms := [false, true]) rfl (by decide +kernel) (by decide +kernel) (by decide +kernel) rfl (by decide +kernel)) (k_itup K (pv 0)) (fun _ _ _ _ _ => (pg_name (i := 1) (show List.Nodup (["deed", "part"] : List Str) by decide +kernel) rfl (Or.inl rfl))) (fun _ _ _ _ _ => pifs_nil) (fun _ _ _ _ _ => (pe_ifExp (pt_val (pe_callB (k_isi K) rfl B.isinstance L2.boot_isinstance (pa_name (pv 1) (pa_name (pe_bltn (v := .ty "list") rfl B.list L2.boot_list rfl) pa_nil)))) (pe_callTy (k_list K) rfl B.list L2.boot_list (pa_name (pv 1) pa_nil)) (pv 1)))) pa_nil)))), ?_⟩
  obtain ⟨t, xs, ds, rfl, rfl, ht, hl, h8, hp⟩ := hd
  walk_at "go"
  refine ⟨t, rfl, ⟨_, SqT.of ht⟩, ?_⟩
  refine comp_gen (goes_tup (SqT.of ht)) ds hl (small_le (by omega)) (fun j x d H1 R hj hd s1 hx hR => ?_) (fun v H1 s1 n1 => ?_)
  · have part := (hp j d x hd hx).sq s1.sq
    walk_at "go"
    rcases part with ⟨i, rfl, rfl⟩ | ⟨i, rfl, rfl⟩ | ⟨b, l, rfl, rfl, hb⟩ | ⟨b, i, k, rfl, rfl, hb⟩
    · refine i_isi (.int i) kit_int_list ?_
      walk_at "go"
      exact hR _ _ (Same.refl _) New.int
    · refine i_isi (.str i) kit_str_list ?_
      walk_at "go"
      exact hR _ _ (Same.refl _) New.str
    · refine i_isi (.lst hb) kit_same ?_
      walk_at "go"
      refine i_listof (.inl (SqL.of hb)) fun p hp' => ?_
      exact hR _ _ (same_upd hp' _) (New.ints_iff.mpr ⟨p, rfl, hp', upd_same⟩)
    · refine i_isi (.tup hb) kit_tuple_list ?_
      walk_at "go"
      exact hR _ _ (Same.refl _) ⟨[], RepF.pair hb, List.nodup_nil, fun _ m => by cases m⟩
  obtain ⟨la, vs, rfl, la0, la1, fp, f1, f2, f3⟩ := New.news n1
  walk_at "go"
  refine i_tupofL (SqL.of la1) fun p hp' => ?_
  have s2 := same_upd hp' (.tup vs)
  exact q _ _ (s1.trans s2) (New.tup (RepFs.sq s2.sq ds f1) f2 f3 upd_same)
/-- a craft's fields, in the order in which they are stored -/
def flds (v1 v2 v3 v4 : V) : List (Str × V) := putF "notes" v4 (putF "deeds" v3 (putF "leaves" v2 (putF "needs" v1 [])))
theorem fl_needs (v1 v2 v3 v4 : V) : (flds v1 v2 v3 v4).lookup ("needs" : Str) = some v1 := by
  unfold flds
  rw [lookup_putF, if_neg (by decide +kernel), lookup_putF, if_neg (by decide +kernel), lookup_putF, if_neg (by decide +kernel), lookup_putF, if_pos rfl]
theorem fl_leaves (v1 v2 v3 v4 : V) : (flds v1 v2 v3 v4).lookup ("leaves" : Str) = some v2 := by
  unfold flds
  rw [lookup_putF, if_neg (by decide +kernel), lookup_putF, if_neg (by decide +kernel), lookup_putF, if_pos rfl]
theorem fl_deeds (v1 v2 v3 v4 : V) : (flds v1 v2 v3 v4).lookup ("deeds" : Str) = some v3 := by
  unfold flds
  rw [lookup_putF, if_neg (by decide +kernel), lookup_putF, if_pos rfl]
theorem fl_notes (v1 v2 v3 v4 : V) : (flds v1 v2 v3 v4).lookup ("notes" : Str) = some v4 := by
  unfold flds
  rw [lookup_putF, if_pos rfl]
theorem len_putF {f : Str} {v : V} {fs : List (Str × V)} {n : Nat} (h : fs.length < n) : (putF f v fs).length < n + 1 := Nat.lt_of_le_of_lt (length_putF f v fs) (by omega)
def craftDs (needs leaves : List (List Int)) (deeds : List D) (notes : List (List (List Int))) : List D := [linesV needs, linesV leaves, .lst deeds, .lst (notes.map linesV)]
/-- a craft stands at p, by its fields' data -/
def CraftAt (K : PySem.W.Frag) (C : Nat → Addr) (H : Hp) (p : Addr) (needs leaves : List (List Int)) (deeds : List D) (notes : List (List (List Int))) : Prop :=
  ∃ dx w1 w2 w3 w4, H p = some (.ins (C 0) dx (flds w1 w2 w3 w4)) ∧ Rep K H (linesV needs) w1 ∧ Rep K H (linesV leaves) w2 ∧ Rep K H (.lst deeds) w3 ∧ Rep K H (.lst (notes.map linesV)) w4
theorem reps4 {K : PySem.W.Frag} {H : Hp} {d1 d2 d3 d4 : D} {w1 w2 w3 w4 : V} (h : Reps K H [d1, d2, d3, d4] [w1, w2, w3, w4]) : Rep K H d1 w1 ∧ Rep K H d2 w2 ∧ Rep K H d3 w3 ∧ Rep K H d4 w4 := by
  unfold Reps at h
  obtain ⟨_, _, e, h1, h⟩ := h
  cases e
  unfold Reps at h
  obtain ⟨_, _, e, h2, h⟩ := h
  cases e
  unfold Reps at h
  obtain ⟨_, _, e, h3, h⟩ := h
  cases e
  unfold Reps at h
  obtain ⟨_, _, e, h4, h⟩ := h
  cases e
  exact ⟨h1, h2, h3, h4⟩
theorem CraftAt.of {K : PySem.W.Frag} {C : Nat → Addr} {H0 H : Hp} {p dx : Addr} {w1 w2 w3 w4 : V} {needs leaves : List (List Int)} {deeds : List D} {notes : List (List (List Int))} (h : H p = some (.ins (C 0) dx (flds w1 w2 w3 w4))) (n : News H0 H (craftDs needs leaves deeds notes) [w1, w2, w3, w4]) : CraftAt K C H p needs leaves deeds notes := by
  obtain ⟨h1, h2, h3, h4⟩ := reps4 n.reps
  exact ⟨dx, w1, w2, w3, w4, h, h1, h2, h3, h4⟩
theorem CraftAt.same {K : PySem.W.Frag} {C : Nat → Addr} {H H' : Hp} {p : Addr} {needs leaves : List (List Int)} {deeds : List D} {notes : List (List (List Int))} (e : Same H H') (h : CraftAt K C H p needs leaves deeds notes) : CraftAt K C H' p needs leaves deeds notes := by
  obtain ⟨dx, w1, w2, w3, w4, h0, h1, h2, h3, h4⟩ := h
  exact ⟨dx, w1, w2, w3, w4, e _ _ h0, Rep.same e _ h1, Rep.same e _ h2, Rep.same e _ h3, Rep.same e _ h4⟩
def sp_Craft___init__ (K : PySem.W.Frag) (C : Nat → Addr) : Sp := fun vs H Q _ => ∃ (p dx : Addr) (v1 v2 v3 v4 : V) (needs leaves : List (List Int)) (deeds : List D) (notes : List (List (List Int))) (a3 a4 : Addr) (dvs nvs : List V), vs = [.ref p, v1, v2, v3, v4] ∧
  H p = some (.ins (C 0) dx []) ∧ Rep K H (linesV needs) v1 ∧ Rep K H (linesV leaves) v2 ∧ v3 = .ref a3 ∧ SqL K H a3 dvs ∧ v4 = .ref a4 ∧ SqL K H a4 nvs ∧
  needs.length ≤ 1000 ∧ leaves.length ≤ 1000 ∧ deeds.length ≤ 1000 ∧ notes.length ≤ 1000 ∧ deeds.length = dvs.length ∧ notes.length = nvs.length ∧ (∀ (i : Nat) d x, deeds[i]? = some d → dvs[i]? = some x → DeedRep H d x) ∧
  (∀ (i : Nat) ls x, notes[i]? = some ls → nvs[i]? = some x → ls.length ≤ 1000 ∧ Rep K H (linesV ls) x) ∧
  ∀ H' w1 w2 w3 w4, (∀ b o, H b = some o → b ≠ p → H' b = some o) → H' p = some (.ins (C 0) dx (flds w1 w2 w3 w4)) → News H H' (craftDs needs leaves deeds notes) [w1, w2, w3, w4] → Q .non H'
theorem mk_Craft {f : Addr} {fd : FuncData} (B : Bl K mg) {C : Nat → Addr} (Z : Zt K mg C) (G_copied_lines : Fn P w K mg base "copied_lines" ["lines"] 1 (sp_copied_lines K)) (G_copied_deed : Fn P w K mg base "copied_deed" ["deed"] 1 (sp_copied_deed K)) (F : Fun K "__init__" "Craft.__init__" s_Craft___init__ f fd) (M : Mk K (C 0) f) : Mkr P w K mg base "Craft" (C 0) ["self", "needs", "leaves", "deeds", "notes"] 2 (sp_Craft___init__ K C) := by
  refine ⟨f, fd, M, F.ok (k := 1) sc_Craft___init__ (fun vs H Q E h => ?_) (fun cdv A outer s H vs Q E hr h => ?_), F.binds fun _ _ _ _ _ _ us hl => match us, hl with | [_, _, _, _, _], _ => rfl, Z.m_Craft⟩
  · first
    | (obtain ⟨rfl, _⟩ := h; rfl)
    | (obtain ⟨_, rfl, _⟩ := h; rfl)
    | (obtain ⟨_, _, rfl, _⟩ := h; rfl)
    | (obtain ⟨_, _, _, rfl, _⟩ := h; rfl)
    | (obtain ⟨_, _, _, _, rfl, _⟩ := h; rfl)
    | (obtain ⟨_, _, _, _, _, rfl, _⟩ := h; rfl)
    | (obtain ⟨_, _, _, _, _, _, rfl, _⟩ := h; rfl)
    | (obtain ⟨_, _, _, _, _, _, _, rfl, _⟩ := h; rfl)
    | (obtain ⟨_, _, _, _, _, _, _, _, rfl, _⟩ := h; rfl)
    | (obtain ⟨_, _, _, _, _, _, _, _, _, rfl, _⟩ := h; rfl)
    | (obtain ⟨_, _, _, _, _, _, _, _, _, _, rfl, _⟩ := h; rfl)
    | (obtain ⟨_, _, _, _, _, _, _, _, _, _, _, rfl, _⟩ := h; rfl)
    | (obtain ⟨_, _, _, _, _, _, _, _, _, _, _, _, rfl, _⟩ := h; rfl)
    | (obtain ⟨_, _, _, _, _, _, _, _, _, _, _, _, _, rfl, _⟩ := h; rfl)
    | (obtain ⟨_, _, _, _, _, _, _, _, _, _, _, _, _, _, rfl, _⟩ := h; rfl)
    | (obtain ⟨_, _, _, _, _, _, _, _, _, _, _, _, _, _, _, rfl, _⟩ := h; rfl)
    | (obtain ⟨_, _, _, _, _, _, _, _, _, _, _, _, _, _, _, _, rfl, _⟩ := h; rfl)
  obtain ⟨p, dx, v1, v2, v3, v4, needs, leaves, deeds, notes, a3, a4, dvs, nvs, rfl, hp, r1, r2, rfl, h3, rfl, h4, l1, l2, l3, l4, e3, e4, dr, nr, q⟩ := h
  refine ⟨_, (pss_cons (ps_fld (pv 0) (pe_fn G_copied_lines hr rfl (pa_name (pv 1) pa_nil)) rfl)
      (pss_cons (ps_fld (pv 0) (pe_fn G_copied_lines hr rfl (pa_name (pv 2) pa_nil)) rfl)
      (pss_cons (ps_fld (pv 0) (pe_comp rfl (CompOk.mk' (sc0 := defScope s_Craft___init__) (N := ["self", "needs", "leaves", "deeds", "notes"]) (N' := ["self", "needs", "leaves", "deeds", "notes", "deed"]) (ms := [false, false, false, false, false, true]) rfl (by decide +kernel) (by decide +kernel) (by decide +kernel) rfl (by decide +kernel)) (k_ilist K (pv 3)) (fun _ _ _ _ _ => (pg_name (i := 5) (show List.Nodup (["self", "needs", "leaves", "deeds", "notes", "deed"] : List Str) by decide +kernel) rfl (Or.inl rfl))) (fun _ _ _ _ _ => pifs_nil) (fun _ _ _ _ _ => (pe_fn G_copied_deed hr rfl (pa_name (pv 5) pa_nil)))) rfl)
      (pss_one (ps_fld (pv 0) (pe_comp rfl (CompOk.mk' (sc0 := defScope s_Craft___init__) (N := ["self", "needs", "leaves", "deeds", "notes"]) (N' := ["self", "needs", "leaves", "deeds", "notes", "lines"]) (ms := [false, false, false, false, false, true]) rfl (by decide +kernel) (by decide +kernel) (by decide +kernel) rfl (by decide +kernel)) (k_ilist K (pv 4)) (fun _ _ _ _ _ => (pg_name (i := 5) (show List.Nodup (["self", "needs", "leaves", "deeds", "notes", "lines"] : List Str) by decide +kernel) rfl (Or.inl rfl))) (fun _ _ _ _ _ => pifs_nil) (fun _ _ _ _ _ => (pe_fn G_copied_lines hr rfl (pa_name (pv 5) pa_nil)))) rfl))))), ?_⟩
  obtain ⟨b1, rfl⟩ : ∃ b, v1 = .ref b := by unfold linesV Rep at r1; obtain ⟨a, _, e, _⟩ := r1; exact ⟨a, e⟩
  obtain ⟨b2, rfl⟩ : ∃ b, v2 = .ref b := by unfold linesV Rep at r2; obtain ⟨a, _, e, _⟩ := r2; exact ⟨a, e⟩
  walk_at "go"
  -- self.needs
  refine ⟨b1, needs, rfl, r1, l1, fun w1 H1 s1 n1 => ?_⟩
  walk_at "go"
  refine ⟨p, C 0, dx, [], rfl, s1 _ _ hp, Z.c_Craft, Z.n_Craft_needs, by show 0 < 1000; decide, ?_⟩
  have k1 : Sq H (upd H1 p (.ins (C 0) dx (putF "needs" w1 []))) := s1.sq.trans (sq_upd (s1 _ _ hp) rfl)
  have u1 : News H (upd H1 p (.ins (C 0) dx (putF "needs" w1 []))) [linesV needs] [w1] := (News.nil.snoc' (H := H) (H1 := H) (Same.refl H).fr s1 n1).sq (sq_upd (s1 _ _ hp) rfl)
  have f1 : Free H (upd H1 p (.ins (C 0) dx (putF "needs" w1 []))) := s1.fr.trans free_upd
  -- self.leaves
  walk_at "go"
  refine ⟨b2, leaves, rfl, Rep.sq k1 _ r2, l2, fun w2 H2 s2 n2 => ?_⟩
  have p2 := s2 _ _ (upd_same (H := H1) (a := p) (o := .ins (C 0) dx (putF "needs" w1 [])))
  walk_at "go"
  refine ⟨p, C 0, dx, _, rfl, p2, Z.c_Craft, Z.n_Craft_leaves, Nat.lt_of_lt_of_le (len_putF (n := 1) (by decide)) (by decide), ?_⟩
  have k2 := k1.trans (s2.sq.trans (sq_upd (o := .ins (C 0) dx (putF "leaves" w2 (putF "needs" w1 []))) p2 rfl))
  have u2 := (u1.snoc' f1 s2 n2).sq (sq_upd (o := .ins (C 0) dx (putF "leaves" w2 (putF "needs" w1 []))) p2 rfl)
  have f2 : Free H (upd H2 p (.ins (C 0) dx (putF "leaves" w2 (putF "needs" w1 [])))) := f1.trans (s2.fr.trans free_upd)
  -- self.deeds
  walk_at "go"
  refine ⟨a3, rfl, ⟨_, k2.lst h3⟩, ?_⟩
  refine comp_gen (goes_list (k2.lst h3)) deeds e3 (small_le (by omega)) (fun j x d H3 R hj hd s3 hx hR => ?_) (fun w3 H3 s3 n3 => ?_)
  · walk_at "go"
    refine ⟨x, d, rfl, (dr j d x hd hx).sq (k2.trans s3.sq), fun v' H4 s4 n4 => ?_⟩
    exact hR _ _ s4 n4
  have p3 := s3 _ _ (upd_same (H := H2) (a := p) (o := .ins (C 0) dx (putF "leaves" w2 (putF "needs" w1 []))))
  walk_at "go"
  refine ⟨p, C 0, dx, _, rfl, p3, Z.c_Craft, Z.n_Craft_deeds, Nat.lt_of_lt_of_le (len_putF (n := 2) (len_putF (n := 1) (by decide))) (by decide), ?_⟩
  have k3 := k2.trans (s3.sq.trans (sq_upd (o := .ins (C 0) dx (putF "deeds" w3 (putF "leaves" w2 (putF "needs" w1 [])))) p3 rfl))
  have u3 := (u2.snoc' f2 s3 n3).sq (sq_upd (o := .ins (C 0) dx (putF "deeds" w3 (putF "leaves" w2 (putF "needs" w1 [])))) p3 rfl)
  have f3 : Free H (upd H3 p (.ins (C 0) dx (putF "deeds" w3 (putF "leaves" w2 (putF "needs" w1 []))))) := f2.trans (s3.fr.trans free_upd)
  -- self.notes
  walk_at "go"
  refine ⟨a4, rfl, ⟨_, k3.lst h4⟩, ?_⟩
  refine comp_gen (goes_list (k3.lst h4)) (notes.map linesV) (by rw [List.length_map]; exact e4) (small_le (by omega)) (fun j x d H4 R hj hd s4 hx hR => ?_) (fun w4 H4 s4 n4 => ?_)
  · rw [List.getElem?_map] at hd
    obtain ⟨ls, hls, rfl⟩ := Option.map_eq_some_iff.mp hd
    obtain ⟨hz, hr2⟩ := nr j ls x hls hx
    have hr3 := Rep.sq (k3.trans s4.sq) _ hr2
    obtain ⟨b, rfl⟩ : ∃ b, x = .ref b := by unfold linesV Rep at hr3; obtain ⟨a, _, e, _⟩ := hr3; exact ⟨a, e⟩
    walk_at "go"
    refine ⟨b, ls, rfl, hr3, hz, fun v' H5 s5 n5 => ?_⟩
    exact hR _ _ s5 n5
  have p4 := s4 _ _ (upd_same (H := H3) (a := p) (o := .ins (C 0) dx (putF "deeds" w3 (putF "leaves" w2 (putF "needs" w1 [])))))
  walk_at "go"
  refine ⟨p, C 0, dx, _, rfl, p4, Z.c_Craft, Z.n_Craft_notes, Nat.lt_of_lt_of_le (len_putF (n := 3) (len_putF (n := 2) (len_putF (n := 1) (by decide)))) (by decide), ?_⟩
  have u4 := (u3.snoc' f3 s4 n4).sq (sq_upd (o := .ins (C 0) dx (putF "notes" w4 (putF "deeds" w3 (putF "leaves" w2 (putF "needs" w1 []))))) p4 rfl)
  refine q _ w1 w2 w3 w4 (fun b o e hb => ?_) upd_same u4
  rw [upd_ne hb]
  refine s4 _ _ ?_
  rw [upd_ne hb]
  refine s3 _ _ ?_
  rw [upd_ne hb]
  refine s2 _ _ ?_
  rw [upd_ne hb]
  exact s1 _ _ e
def sp_between (K : PySem.W.Frag) : Sp := fun vs H Q _ => ∃ a b c : Int, vs = [.int a, .int b, .int c] ∧ Q (.bl (decide (a ≤ b) && decide (b ≤ c))) H
theorem i_between {H : Hp} {Q : VK} {E : XK} {a b c : Int} (q : Q (.bl (decide (a ≤ b) && decide (b ≤ c))) H) : sp_between K [.int a, .int b, .int c] H Q E := ⟨a, b, c, rfl, q⟩
theorem fn_between {f : Addr} {fd : FuncData} (B : Bl K mg) {C : Nat → Addr} (Z : Zt K mg C)  (F : Fun K "between" "between" s_between f fd) (m : mg "between" = some (.ref f)) : Fn P w K mg base "between" ["low", "number", "high"] 1 (sp_between K) := by
  refine Fn.of (k := 0) F sc_between m (fun _ _ _ _ _ _ us hl => match us, hl with | [_, _, _], _ => rfl) (fun vs H Q E h => ?_) (fun cdv A outer s H vs Q E hr h => ?_)
  · first
    | (obtain ⟨rfl, _⟩ := h; rfl)
    | (obtain ⟨_, rfl, _⟩ := h; rfl)
    | (obtain ⟨_, _, rfl, _⟩ := h; rfl)
    | (obtain ⟨_, _, _, rfl, _⟩ := h; rfl)
    | (obtain ⟨_, _, _, _, rfl, _⟩ := h; rfl)
    | (obtain ⟨_, _, _, _, _, rfl, _⟩ := h; rfl)
    | (obtain ⟨_, _, _, _, _, _, rfl, _⟩ := h; rfl)
    | (obtain ⟨_, _, _, _, _, _, _, rfl, _⟩ := h; rfl)
    | (obtain ⟨_, _, _, _, _, _, _, _, rfl, _⟩ := h; rfl)
    | (obtain ⟨_, _, _, _, _, _, _, _, _, rfl, _⟩ := h; rfl)
    | (obtain ⟨_, _, _, _, _, _, _, _, _, _, rfl, _⟩ := h; rfl)
    | (obtain ⟨_, _, _, _, _, _, _, _, _, _, _, rfl, _⟩ := h; rfl)
    | (obtain ⟨_, _, _, _, _, _, _, _, _, _, _, _, rfl, _⟩ := h; rfl)
    | (obtain ⟨_, _, _, _, _, _, _, _, _, _, _, _, _, rfl, _⟩ := h; rfl)
    | (obtain ⟨_, _, _, _, _, _, _, _, _, _, _, _, _, _, rfl, _⟩ := h; rfl)
    | (obtain ⟨_, _, _, _, _, _, _, _, _, _, _, _, _, _, _, rfl, _⟩ := h; rfl)
    | (obtain ⟨_, _, _, _, _, _, _, _, _, _, _, _, _, _, _, _, rfl, _⟩ := h; rfl)
  obtain ⟨a, b, c, rfl, q⟩ := h
  refine ⟨_, (pss_one (ps_ret (pe_chain op_le op_le (pv 0) (pv 1) (pv 2)))), ?_⟩
  walk_at "go"
  cases h : decide (a ≤ b) with
  | false => rw [h] at q; walk_at "go"; exact q
  | true => rw [h] at q; walk_at "go"; exact q
def sp_small_enough (K : PySem.W.Frag) : Sp := fun vs H Q _ => ∃ n : Int, vs = [.int n] ∧ Q (.bl (smallB n)) H
theorem i_small {H : Hp} {Q : VK} {E : XK} {n : Int} (q : Q (.bl (smallB n)) H) : sp_small_enough K [.int n] H Q E := ⟨n, rfl, q⟩
theorem fn_small_enough {f : Addr} {fd : FuncData} (B : Bl K mg) {C : Nat → Addr} (Z : Zt K mg C) (G_between : Fn P w K mg base "between" ["low", "number", "high"] 1 (sp_between K)) (F : Fun K "small_enough" "small_enough" s_small_enough f fd) (m : mg "small_enough" = some (.ref f)) : Fn P w K mg base "small_enough" ["number"] 2 (sp_small_enough K) := by
  refine Fn.of (k := 1) F sc_small_enough m (fun _ _ _ _ _ _ us hl => match us, hl with | [_], _ => rfl) (fun vs H Q E h => ?_) (fun cdv A outer s H vs Q E hr h => ?_)
  · first
    | (obtain ⟨rfl, _⟩ := h; rfl)
    | (obtain ⟨_, rfl, _⟩ := h; rfl)
    | (obtain ⟨_, _, rfl, _⟩ := h; rfl)
    | (obtain ⟨_, _, _, rfl, _⟩ := h; rfl)
    | (obtain ⟨_, _, _, _, rfl, _⟩ := h; rfl)
    | (obtain ⟨_, _, _, _, _, rfl, _⟩ := h; rfl)
    | (obtain ⟨_, _, _, _, _, _, rfl, _⟩ := h; rfl)
    | (obtain ⟨_, _, _, _, _, _, _, rfl, _⟩ := h; rfl)
    | (obtain ⟨_, _, _, _, _, _, _, _, rfl, _⟩ := h; rfl)
    | (obtain ⟨_, _, _, _, _, _, _, _, _, rfl, _⟩ := h; rfl)
    | (obtain ⟨_, _, _, _, _, _, _, _, _, _, rfl, _⟩ := h; rfl)
    | (obtain ⟨_, _, _, _, _, _, _, _, _, _, _, rfl, _⟩ := h; rfl)
    | (obtain ⟨_, _, _, _, _, _, _, _, _, _, _, _, rfl, _⟩ := h; rfl)
    | (obtain ⟨_, _, _, _, _, _, _, _, _, _, _, _, _, rfl, _⟩ := h; rfl)
    | (obtain ⟨_, _, _, _, _, _, _, _, _, _, _, _, _, _, rfl, _⟩ := h; rfl)
    | (obtain ⟨_, _, _, _, _, _, _, _, _, _, _, _, _, _, _, rfl, _⟩ := h; rfl)
    | (obtain ⟨_, _, _, _, _, _, _, _, _, _, _, _, _, _, _, _, rfl, _⟩ := h; rfl)
  obtain ⟨n, rfl, q⟩ := h
  refine ⟨_, (pss_one (ps_ret (pe_fn G_between hr rfl (pa_un (pe_un un_neg (pe_gint rfl B.c_GREATEST)) (pa_name (pv 0) (pa_name (pe_gint rfl B.c_GREATEST) pa_nil)))))), ?_⟩
  walk_at "go"
  refine i_between ?_
  exact q
def sp_line_right (K : PySem.W.Frag) : Sp := fun vs H Q _ => ∃ (a t : Addr) (l : List Int) (spots : List Nat), vs = [.ref a, .ref t] ∧ SqL K H a (l.map V.int) ∧ SqT K H t (spots.map fun (s : Nat) => V.int (s : Int)) ∧ l.length = 9 ∧ spots.length ≤ 9 ∧ (∀ s ∈ spots, s < 9) ∧ ∀ H', Same H H' → Q (.bl (lineOk spots l)) H'
theorem fn_line_right {f : Addr} {fd : FuncData} (B : Bl K mg) {C : Nat → Addr} (Z : Zt K mg C) (G_small_enough : Fn P w K mg base "small_enough" ["number"] 2 (sp_small_enough K)) (F : Fun K "line_right" "line_right" s_line_right f fd) (m : mg "line_right" = some (.ref f)) : Fn P w K mg base "line_right" ["line", "nought_spots"] 3 (sp_line_right K) := by
  refine Fn.of (k := 2) F sc_line_right m (fun _ _ _ _ _ _ us hl => match us, hl with | [_, _], _ => rfl) (fun vs H Q E h => ?_) (fun cdv A outer s H vs Q E hr h => ?_)
  · first
    | (obtain ⟨rfl, _⟩ := h; rfl)
    | (obtain ⟨_, rfl, _⟩ := h; rfl)
    | (obtain ⟨_, _, rfl, _⟩ := h; rfl)
    | (obtain ⟨_, _, _, rfl, _⟩ := h; rfl)
    | (obtain ⟨_, _, _, _, rfl, _⟩ := h; rfl)
    | (obtain ⟨_, _, _, _, _, rfl, _⟩ := h; rfl)
    | (obtain ⟨_, _, _, _, _, _, rfl, _⟩ := h; rfl)
    | (obtain ⟨_, _, _, _, _, _, _, rfl, _⟩ := h; rfl)
    | (obtain ⟨_, _, _, _, _, _, _, _, rfl, _⟩ := h; rfl)
    | (obtain ⟨_, _, _, _, _, _, _, _, _, rfl, _⟩ := h; rfl)
    | (obtain ⟨_, _, _, _, _, _, _, _, _, _, rfl, _⟩ := h; rfl)
    | (obtain ⟨_, _, _, _, _, _, _, _, _, _, _, rfl, _⟩ := h; rfl)
    | (obtain ⟨_, _, _, _, _, _, _, _, _, _, _, _, rfl, _⟩ := h; rfl)
    | (obtain ⟨_, _, _, _, _, _, _, _, _, _, _, _, _, rfl, _⟩ := h; rfl)
    | (obtain ⟨_, _, _, _, _, _, _, _, _, _, _, _, _, _, rfl, _⟩ := h; rfl)
    | (obtain ⟨_, _, _, _, _, _, _, _, _, _, _, _, _, _, _, rfl, _⟩ := h; rfl)
    | (obtain ⟨_, _, _, _, _, _, _, _, _, _, _, _, _, _, _, _, rfl, _⟩ := h; rfl)
  obtain ⟨a, t, l, spots, rfl, hA, hT, l9, ls9, hs, q⟩ := h
  refine ⟨_, (pss_cons (ps_set (i := 2) sc_line_right.nd rfl (Or.inl rfl) (pe_callB (k_all K rfl) rfl B.all L2.boot_all (pa_comp (pe_comp rfl (CompOk.mk' (sc0 := defScope s_line_right) (N := ["line", "nought_spots", "small"]) (N' := ["line", "nought_spots", "small", "number"]) (ms := [false, false, false, true]) rfl (by decide +kernel) (by decide +kernel) (by decide +kernel) rfl (by decide +kernel)) (k_ilist K (pv 0)) (fun _ _ _ _ _ => (pg_name (i := 3) (show List.Nodup (["line", "nought_spots", "small", "number"] : List Str) by decide +kernel) rfl (Or.inl rfl))) (fun _ _ _ _ _ => pifs_nil) (fun _ _ _ _ _ => (pe_fn G_small_enough hr rfl (pa_name (pv 3) pa_nil)))) pa_nil)))
      (pss_one (ps_ret (pe_and (pv 2) (pe_one (pe_callB (k_all K rfl) rfl B.all L2.boot_all (pa_comp (pe_comp rfl (CompOk.mk' (sc0 := defScope s_line_right) (N := ["line", "nought_spots", "small"]) (N' := ["line", "nought_spots", "small", "spot"]) (ms := [false, false, false, true]) rfl (by decide +kernel) (by decide +kernel) (by decide +kernel) rfl (by decide +kernel)) (k_itup K (pv 1)) (fun _ _ _ _ _ => (pg_name (i := 3) (show List.Nodup (["line", "nought_spots", "small", "spot"] : List Str) by decide +kernel) rfl (Or.inl rfl))) (fun _ _ _ _ _ => pifs_nil) (fun _ _ _ _ _ => (pe_cmpR (k_eq K hr) (pe_ix (k_ix K) (pv 0) (pv 3) (fun _ _ => rfl)) pe_int (nomark _)))) pa_nil))))))), ?_⟩
  unfold lineOk at q
  walk_at "go"
  refine ⟨a, rfl, ⟨_, hA⟩, ?_⟩
  refine comp_gen (goes_list hA) ((l.map smallB).map D.bl) (by simp) (small_le (by simp; omega)) (fun k x d H1 R hk hd s1 hx hR => ?_) (fun v H1 s1 n1 => ?_)
  · rw [List.getElem?_map] at hx
    obtain ⟨y, hy, rfl⟩ := Option.map_eq_some_iff.mp hx
    rw [List.getElem?_map, List.getElem?_map, hy] at hd
    cases hd
    walk_at "go"
    refine i_small ?_
    exact hR _ _ (Same.refl _) New.bl
  obtain ⟨la, rfl, la0, la1⟩ := New.bls n1
  walk_at "go"
  refine i_all (SqL.of la1) ?_
  walk_at "go"
  refine i_ite (fun e => ?_) (fun e => by have q1 := q _ s1; rw [e] at q1; exact q1)
  rw [e, Bool.true_and] at q
  walk_at "go"
  refine ⟨t, rfl, ⟨_, s1.tup hT⟩, ?_⟩
  refine comp_gen (goes_tup (s1.tup hT)) ((spots.map fun s => decide (l.getD s 0 = 0)).map D.bl) (by simp) (small_le (by simp; omega)) (fun k x d H2 R hk hd s2 hx hR => ?_) (fun v H2 s2 n2 => ?_)
  · rw [List.getElem?_map] at hx
    obtain ⟨sp, hsp, rfl⟩ := Option.map_eq_some_iff.mp hx
    rw [List.getElem?_map, List.getElem?_map, hsp] at hd
    cases hd
    have sl : sp < l.length := by have := hs sp (List.mem_of_getElem? hsp); omega
    walk_at "go"
    refine i_ixL ((s1.trans s2).seq hA) (v := .int (l.getD sp 0)) (atI_nat (by simp [sl])) ?_
    walk_at "go"
    exact hR _ _ (Same.refl _) New.bl
  obtain ⟨lb, rfl, lb0, lb1⟩ := New.bls n2
  walk_at "go"
  refine i_all (SqL.of lb1) ?_
  exact q _ (s1.trans s2)
def sp_lines_right (K : PySem.W.Frag) : Sp := fun vs H Q _ => ∃ (a t : Addr) (ls : List (List Int)) (spots : List Nat), vs = [.ref a, .ref t] ∧ Rep K H (linesV ls) (.ref a) ∧ SqT K H t (spots.map fun (s : Nat) => V.int (s : Int)) ∧ ls.length ≤ 1000 ∧ (∀ l ∈ ls, l.length = 9) ∧ spots.length ≤ 9 ∧ (∀ s ∈ spots, s < 9) ∧ ∀ H', Same H H' → Q (.bl (linesOk spots ls)) H'
theorem fn_lines_right {f : Addr} {fd : FuncData} (B : Bl K mg) {C : Nat → Addr} (Z : Zt K mg C) (G_line_right : Fn P w K mg base "line_right" ["line", "nought_spots"] 3 (sp_line_right K)) (F : Fun K "lines_right" "lines_right" s_lines_right f fd) (m : mg "lines_right" = some (.ref f)) : Fn P w K mg base "lines_right" ["lines", "nought_spots"] 4 (sp_lines_right K) := by
  refine Fn.of (k := 3) F sc_lines_right m (fun _ _ _ _ _ _ us hl => match us, hl with | [_, _], _ => rfl) (fun vs H Q E h => ?_) (fun cdv A outer s H vs Q E hr h => ?_)
  · first
    | (obtain ⟨rfl, _⟩ := h; rfl)
    | (obtain ⟨_, rfl, _⟩ := h; rfl)
    | (obtain ⟨_, _, rfl, _⟩ := h; rfl)
    | (obtain ⟨_, _, _, rfl, _⟩ := h; rfl)
    | (obtain ⟨_, _, _, _, rfl, _⟩ := h; rfl)
    | (obtain ⟨_, _, _, _, _, rfl, _⟩ := h; rfl)
    | (obtain ⟨_, _, _, _, _, _, rfl, _⟩ := h; rfl)
    | (obtain ⟨_, _, _, _, _, _, _, rfl, _⟩ := h; rfl)
    | (obtain ⟨_, _, _, _, _, _, _, _, rfl, _⟩ := h; rfl)
    | (obtain ⟨_, _, _, _, _, _, _, _, _, rfl, _⟩ := h; rfl)
    | (obtain ⟨_, _, _, _, _, _, _, _, _, _, rfl, _⟩ := h; rfl)
    | (obtain ⟨_, _, _, _, _, _, _, _, _, _, _, rfl, _⟩ := h; rfl)
    | (obtain ⟨_, _, _, _, _, _, _, _, _, _, _, _, rfl, _⟩ := h; rfl)
    | (obtain ⟨_, _, _, _, _, _, _, _, _, _, _, _, _, rfl, _⟩ := h; rfl)
    | (obtain ⟨_, _, _, _, _, _, _, _, _, _, _, _, _, _, rfl, _⟩ := h; rfl)
    | (obtain ⟨_, _, _, _, _, _, _, _, _, _, _, _, _, _, _, rfl, _⟩ := h; rfl)
    | (obtain ⟨_, _, _, _, _, _, _, _, _, _, _, _, _, _, _, _, rfl, _⟩ := h; rfl)
  obtain ⟨a, t, ls, spots, rfl, hA, hT, l1000, h9, ls9, hs, q⟩ := h
  refine ⟨_, (pss_one (ps_ret (pe_and (pe_cmpR op_le (pe_callB (k_len K) rfl B.len L2.boot_len (pa_name (pv 0) pa_nil)) (pe_gint rfl B.c_MOST_LINES) (nomark _)) (pe_one (pe_callB (k_all K rfl) rfl B.all L2.boot_all (pa_comp (pe_comp rfl (CompOk.mk' (sc0 := defScope s_lines_right) (N := ["lines", "nought_spots"]) (N' := ["lines", "nought_spots", "line"]) (ms := [false, false, true]) rfl (by decide +kernel) (by decide +kernel) (by decide +kernel) rfl (by decide +kernel)) (k_ilist K (pv 0)) (fun _ _ _ _ _ => (pg_name (i := 2) (show List.Nodup (["lines", "nought_spots", "line"] : List Str) by decide +kernel) rfl (Or.inl rfl))) (fun _ _ _ _ _ => pifs_nil) (fun _ _ _ _ _ => (pe_fn G_line_right hr rfl (pa_name (pv 2) (pa_name (pv 1) pa_nil))))) pa_nil)))))), ?_⟩
  unfold linesV Rep at hA
  obtain ⟨a', xs, e, hA, hx⟩ := hA
  cases e
  have lx := hx.length
  rw [List.length_map] at lx
  unfold linesOk at q
  walk_at "go"
  refine i_len (.inl hA) ?_
  walk_at "go"
  rw [← lx]
  refine i_ite (fun e => ?_) (fun e => by have q1 := q _ (Same.refl _); rw [e] at q1; exact q1)
  rw [e, Bool.true_and] at q
  walk_at "go"
  refine ⟨a, rfl, ⟨_, hA⟩, ?_⟩
  refine comp_gen (goes_list hA) ((ls.map (lineOk spots)).map D.bl) (by simp; omega) (small_le (by omega)) (fun k x d H1 R hk hd s1 hx' hR => ?_) (fun v H1 s1 n1 => ?_)
  · obtain ⟨d2, hd2, hrx⟩ := Reps.get' hx hx'
    rw [List.getElem?_map] at hd2
    obtain ⟨l, hl, rfl⟩ := Option.map_eq_some_iff.mp hd2
    rw [List.getElem?_map, List.getElem?_map, hl] at hd
    cases hd
    obtain ⟨xa, rfl, hxa⟩ := rep_ints.mp (Rep.same s1 _ hrx)
    walk_at "go"
    refine ⟨xa, t, l, spots, rfl, hxa, s1.tup hT, h9 l (List.mem_of_getElem? hl), ls9, hs, fun H2 s2 => ?_⟩
    exact hR _ _ s2 New.bl
  obtain ⟨la, rfl, la0, la1⟩ := New.bls n1
  walk_at "go"
  refine i_all (SqL.of la1) ?_
  exact q _ s1
def sp_oath_right (K : PySem.W.Frag) (C : Nat → Addr) : Sp := fun vs H Q _ => ∃ (p : Addr) (needs leaves : List (List Int)) (ds : List D) (notes : List (List (List Int))), vs = [.ref p] ∧ CraftAt K C H p needs leaves ds notes ∧ needs.length ≤ 1000 ∧ leaves.length ≤ 1000 ∧ (∀ l ∈ needs, l.length = 9) ∧ (∀ l ∈ leaves, l.length = 9) ∧ ∀ H', Same H H' → Q (.bl (oathOk needs leaves)) H'
theorem fn_oath_right {f : Addr} {fd : FuncData} (B : Bl K mg) {C : Nat → Addr} (Z : Zt K mg C) (G_lines_right : Fn P w K mg base "lines_right" ["lines", "nought_spots"] 4 (sp_lines_right K)) (F : Fun K "oath_right" "oath_right" s_oath_right f fd) (m : mg "oath_right" = some (.ref f)) : Fn P w K mg base "oath_right" ["craft"] 5 (sp_oath_right K C) := by
  refine Fn.of (k := 4) F sc_oath_right m (fun _ _ _ _ _ _ us hl => match us, hl with | [_], _ => rfl) (fun vs H Q E h => ?_) (fun cdv A outer s H vs Q E hr h => ?_)
  · first
    | (obtain ⟨rfl, _⟩ := h; rfl)
    | (obtain ⟨_, rfl, _⟩ := h; rfl)
    | (obtain ⟨_, _, rfl, _⟩ := h; rfl)
    | (obtain ⟨_, _, _, rfl, _⟩ := h; rfl)
    | (obtain ⟨_, _, _, _, rfl, _⟩ := h; rfl)
    | (obtain ⟨_, _, _, _, _, rfl, _⟩ := h; rfl)
    | (obtain ⟨_, _, _, _, _, _, rfl, _⟩ := h; rfl)
    | (obtain ⟨_, _, _, _, _, _, _, rfl, _⟩ := h; rfl)
    | (obtain ⟨_, _, _, _, _, _, _, _, rfl, _⟩ := h; rfl)
    | (obtain ⟨_, _, _, _, _, _, _, _, _, rfl, _⟩ := h; rfl)
    | (obtain ⟨_, _, _, _, _, _, _, _, _, _, rfl, _⟩ := h; rfl)
    | (obtain ⟨_, _, _, _, _, _, _, _, _, _, _, rfl, _⟩ := h; rfl)
    | (obtain ⟨_, _, _, _, _, _, _, _, _, _, _, _, rfl, _⟩ := h; rfl)
    | (obtain ⟨_, _, _, _, _, _, _, _, _, _, _, _, _, rfl, _⟩ := h; rfl)
    | (obtain ⟨_, _, _, _, _, _, _, _, _, _, _, _, _, _, rfl, _⟩ := h; rfl)
    | (obtain ⟨_, _, _, _, _, _, _, _, _, _, _, _, _, _, _, rfl, _⟩ := h; rfl)
    | (obtain ⟨_, _, _, _, _, _, _, _, _, _, _, _, _, _, _, _, rfl, _⟩ := h; rfl)
  obtain ⟨p, needs, leaves, ds, notes, rfl, hC, ln, ll, h9n, h9l, q⟩ := h
  obtain ⟨gl, g_LEFT_SPOTS, hL⟩ := B.t_LEFT_SPOTS
  obtain ⟨gh, g_HAND_SPOTS, hH⟩ := B.t_HAND_SPOTS
  have sp9 : ∀ s ∈ ([1, 2, 3, 4, 7, 8] : List Nat), s < 9 := by decide
  have sp4 : ∀ s ∈ ([1, 2, 3, 4] : List Nat), s < 9 := by decide
  refine ⟨_, (pss_cons (ps_set (i := 1) sc_oath_right.nd rfl (Or.inl rfl) (pe_fn G_lines_right hr rfl (pa_attr (k_fld K (pv 0) rfl) (pa_bin (pe_op (k_plus K) (pe_gtup rfl g_HAND_SPOTS) (pe_gtup rfl g_LEFT_SPOTS)) pa_nil))))
      (pss_one (ps_ret (pe_and (pv 1) (pe_one (pe_fn G_lines_right hr rfl (pa_attr (k_fld K (pv 0) rfl) (pa_name (pe_gtup rfl g_HAND_SPOTS) pa_nil)))))))), ?_⟩
  obtain ⟨dx, w1, w2, w3, w4, hp, r1, r2, r3, r4⟩ := hC
  obtain ⟨b1, rfl⟩ : ∃ b, w1 = .ref b := by unfold linesV Rep at r1; obtain ⟨a, _, e, _⟩ := r1; exact ⟨a, e⟩
  obtain ⟨b2, rfl⟩ : ∃ b, w2 = .ref b := by unfold linesV Rep at r2; obtain ⟨a, _, e, _⟩ := r2; exact ⟨a, e⟩
  unfold oathOk at q
  walk_at "go"
  refine ⟨p, C 0, dx, _, _, rfl, hp, Z.c_Craft, Z.n_Craft_needs, fl_needs _ _ _ _, ?_⟩
  walk_at "go"
  refine i_catT (hH _) (hL _) (by simp) (by simp) (small_le (by simp)) fun t t0 => ?_
  have s0 := same_upd t0 (.tup ([V.int 1, .int 2, .int 3, .int 4] ++ [V.int 7, .int 8]))
  walk_at "go"
  refine ⟨b1, t, needs, [1, 2, 3, 4, 7, 8], rfl, Rep.same s0 _ r1, .inl (.inl upd_same), ln, h9n, by decide, sp9, fun H1 s1 => ?_⟩
  have s2 := s0.trans s1
  walk_at "go"
  refine i_ite (fun e => ?_) (fun e => by have q1 := q _ s2; rw [e] at q1; exact q1)
  rw [e, Bool.true_and] at q
  walk_at "go"
  refine ⟨p, C 0, dx, _, _, rfl, s2 _ _ hp, Z.c_Craft, Z.n_Craft_leaves, fl_leaves _ _ _ _, ?_⟩
  walk_at "go"
  exact ⟨b2, gh, leaves, [1, 2, 3, 4], rfl, Rep.same s2 _ r2, hH _, ll, h9l, by decide, sp4, fun H3 s3 => q _ (s2.trans s3)⟩
def sp_hand_right (K : PySem.W.Frag) : Sp := fun vs H Q _ => ∃ n : Int, vs = [.int n] ∧ Q (.bl (handB n)) H
theorem i_hand {H : Hp} {Q : VK} {E : XK} {n : Int} (q : Q (.bl (handB n)) H) : sp_hand_right K [.int n] H Q E := ⟨n, rfl, q⟩
theorem fn_hand_right {f : Addr} {fd : FuncData} (B : Bl K mg) {C : Nat → Addr} (Z : Zt K mg C) (G_between : Fn P w K mg base "between" ["low", "number", "high"] 1 (sp_between K)) (F : Fun K "hand_right" "hand_right" s_hand_right f fd) (m : mg "hand_right" = some (.ref f)) : Fn P w K mg base "hand_right" ["hand"] 2 (sp_hand_right K) := by
  refine Fn.of (k := 1) F sc_hand_right m (fun _ _ _ _ _ _ us hl => match us, hl with | [_], _ => rfl) (fun vs H Q E h => ?_) (fun cdv A outer s H vs Q E hr h => ?_)
  · first
    | (obtain ⟨rfl, _⟩ := h; rfl)
    | (obtain ⟨_, rfl, _⟩ := h; rfl)
    | (obtain ⟨_, _, rfl, _⟩ := h; rfl)
    | (obtain ⟨_, _, _, rfl, _⟩ := h; rfl)
    | (obtain ⟨_, _, _, _, rfl, _⟩ := h; rfl)
    | (obtain ⟨_, _, _, _, _, rfl, _⟩ := h; rfl)
    | (obtain ⟨_, _, _, _, _, _, rfl, _⟩ := h; rfl)
    | (obtain ⟨_, _, _, _, _, _, _, rfl, _⟩ := h; rfl)
    | (obtain ⟨_, _, _, _, _, _, _, _, rfl, _⟩ := h; rfl)
    | (obtain ⟨_, _, _, _, _, _, _, _, _, rfl, _⟩ := h; rfl)
    | (obtain ⟨_, _, _, _, _, _, _, _, _, _, rfl, _⟩ := h; rfl)
    | (obtain ⟨_, _, _, _, _, _, _, _, _, _, _, rfl, _⟩ := h; rfl)
    | (obtain ⟨_, _, _, _, _, _, _, _, _, _, _, _, rfl, _⟩ := h; rfl)
    | (obtain ⟨_, _, _, _, _, _, _, _, _, _, _, _, _, rfl, _⟩ := h; rfl)
    | (obtain ⟨_, _, _, _, _, _, _, _, _, _, _, _, _, _, rfl, _⟩ := h; rfl)
    | (obtain ⟨_, _, _, _, _, _, _, _, _, _, _, _, _, _, _, rfl, _⟩ := h; rfl)
    | (obtain ⟨_, _, _, _, _, _, _, _, _, _, _, _, _, _, _, _, rfl, _⟩ := h; rfl)
  obtain ⟨n, rfl, q⟩ := h
  refine ⟨_, (pss_one (ps_ret (pe_fn G_between hr rfl (pa_const pe_int (pa_name (pv 0) (pa_name (pe_gint rfl B.c_LAST_HAND) pa_nil)))))), ?_⟩
  walk_at "go"
  refine i_between ?_
  exact q
def sp_two_hands_right (K : PySem.W.Frag) : Sp := fun vs H Q _ => ∃ (a : Addr) (i j : Int), vs = [.ref a] ∧ SqT K H a [.int i, .int j] ∧ ∀ H', Same H H' → Q (.bl ([handB i, handB j].all id)) H'
theorem fn_two_hands_right {f : Addr} {fd : FuncData} (B : Bl K mg) {C : Nat → Addr} (Z : Zt K mg C) (G_hand_right : Fn P w K mg base "hand_right" ["hand"] 2 (sp_hand_right K)) (F : Fun K "two_hands_right" "two_hands_right" s_two_hands_right f fd) (m : mg "two_hands_right" = some (.ref f)) : Fn P w K mg base "two_hands_right" ["hands"] 3 (sp_two_hands_right K) := by
  refine Fn.of (k := 2) F sc_two_hands_right m (fun _ _ _ _ _ _ us hl => match us, hl with | [_], _ => rfl) (fun vs H Q E h => ?_) (fun cdv A outer s H vs Q E hr h => ?_)
  · first
    | (obtain ⟨rfl, _⟩ := h; rfl)
    | (obtain ⟨_, rfl, _⟩ := h; rfl)
    | (obtain ⟨_, _, rfl, _⟩ := h; rfl)
    | (obtain ⟨_, _, _, rfl, _⟩ := h; rfl)
    | (obtain ⟨_, _, _, _, rfl, _⟩ := h; rfl)
    | (obtain ⟨_, _, _, _, _, rfl, _⟩ := h; rfl)
    | (obtain ⟨_, _, _, _, _, _, rfl, _⟩ := h; rfl)
    | (obtain ⟨_, _, _, _, _, _, _, rfl, _⟩ := h; rfl)
    | (obtain ⟨_, _, _, _, _, _, _, _, rfl, _⟩ := h; rfl)
    | (obtain ⟨_, _, _, _, _, _, _, _, _, rfl, _⟩ := h; rfl)
    | (obtain ⟨_, _, _, _, _, _, _, _, _, _, rfl, _⟩ := h; rfl)
    | (obtain ⟨_, _, _, _, _, _, _, _, _, _, _, rfl, _⟩ := h; rfl)
    | (obtain ⟨_, _, _, _, _, _, _, _, _, _, _, _, rfl, _⟩ := h; rfl)
    | (obtain ⟨_, _, _, _, _, _, _, _, _, _, _, _, _, rfl, _⟩ := h; rfl)
    | (obtain ⟨_, _, _, _, _, _, _, _, _, _, _, _, _, _, rfl, _⟩ := h; rfl)
    | (obtain ⟨_, _, _, _, _, _, _, _, _, _, _, _, _, _, _, rfl, _⟩ := h; rfl)
    | (obtain ⟨_, _, _, _, _, _, _, _, _, _, _, _, _, _, _, _, rfl, _⟩ := h; rfl)
  obtain ⟨a, i, j, rfl, hA, q⟩ := h
  refine ⟨_, (pss_one (ps_ret (pe_and (pe_cmpR (k_eq K hr) (pe_callB (k_len K) rfl B.len L2.boot_len (pa_name (pv 0) pa_nil)) pe_int (nomark _)) (pe_one (pe_callB (k_all K rfl) rfl B.all L2.boot_all (pa_comp (pe_comp rfl (CompOk.mk' (sc0 := defScope s_two_hands_right) (N := ["hands"]) (N' := ["hands", "hand"]) (ms := [false, true]) rfl (by decide +kernel) (by decide +kernel) (by decide +kernel) rfl (by decide +kernel)) (k_itup K (pv 0)) (fun _ _ _ _ _ => (pg_name (i := 1) (show List.Nodup (["hands", "hand"] : List Str) by decide +kernel) rfl (Or.inl rfl))) (fun _ _ _ _ _ => pifs_nil) (fun _ _ _ _ _ => (pe_fn G_hand_right hr rfl (pa_name (pv 1) pa_nil)))) pa_nil)))))), ?_⟩
  walk_at "go"
  refine i_len (.inr hA) ?_
  walk_at "go"
  rw [show decide ((([V.int i, .int j].length : Nat) : Int) = 2) = true from rfl]
  walk_at "go"
  refine ⟨a, rfl, ⟨_, hA⟩, ?_⟩
  refine comp_gen (goes_tup hA) ([handB i, handB j].map D.bl) rfl (small_le (by simp)) (fun k x d H1 R hk hd s1 hx hR => ?_) (fun v H1 s1 n1 => ?_)
  · have hx' : ([i, j].map V.int)[k]? = some x := hx
    have hd' : ([i, j].map fun z => D.bl (handB z))[k]? = some d := hd
    rw [List.getElem?_map] at hx' hd'
    obtain ⟨y, hy, rfl⟩ := Option.map_eq_some_iff.mp hx'
    rw [hy] at hd'
    cases hd'
    walk_at "go"
    refine i_hand ?_
    exact hR _ _ (Same.refl _) New.bl
  obtain ⟨la, rfl, la0, la1⟩ := New.bls n1
  walk_at "go"
  refine i_all (SqL.of la1) ?_
  exact q _ s1
def sp_call_right (K : PySem.W.Frag) : Sp := fun vs H Q _ => ∃ (m : Int) (a b : Addr) (g0 g1 t0 t1 : Int), vs = [.int m, .ref a, .ref b] ∧ SqT K H a [.int g0, .int g1] ∧ SqT K H b [.int t0, .int t1] ∧
  ∀ H', Same H H' → Q (.bl (([handB g0, handB g1].all id && [handB t0, handB t1].all id) && (btw 0 m 99 && !decide (t0 = t1)))) H'
theorem fn_call_right {f : Addr} {fd : FuncData} (B : Bl K mg) {C : Nat → Addr} (Z : Zt K mg C) (G_two_hands_right : Fn P w K mg base "two_hands_right" ["hands"] 3 (sp_two_hands_right K)) (G_between : Fn P w K mg base "between" ["low", "number", "high"] 1 (sp_between K)) (F : Fun K "call_right" "call_right" s_call_right f fd) (m : mg "call_right" = some (.ref f)) : Fn P w K mg base "call_right" ["number", "given", "taken"] 4 (sp_call_right K) := by
  refine Fn.of (k := 3) F sc_call_right m (fun _ _ _ _ _ _ us hl => match us, hl with | [_, _, _], _ => rfl) (fun vs H Q E h => ?_) (fun cdv A outer s H vs Q E hr h => ?_)
  · first
    | (obtain ⟨rfl, _⟩ := h; rfl)
    | (obtain ⟨_, rfl, _⟩ := h; rfl)
    | (obtain ⟨_, _, rfl, _⟩ := h; rfl)
    | (obtain ⟨_, _, _, rfl, _⟩ := h; rfl)
    | (obtain ⟨_, _, _, _, rfl, _⟩ := h; rfl)
    | (obtain ⟨_, _, _, _, _, rfl, _⟩ := h; rfl)
    | (obtain ⟨_, _, _, _, _, _, rfl, _⟩ := h; rfl)
    | (obtain ⟨_, _, _, _, _, _, _, rfl, _⟩ := h; rfl)
    | (obtain ⟨_, _, _, _, _, _, _, _, rfl, _⟩ := h; rfl)
    | (obtain ⟨_, _, _, _, _, _, _, _, _, rfl, _⟩ := h; rfl)
    | (obtain ⟨_, _, _, _, _, _, _, _, _, _, rfl, _⟩ := h; rfl)
    | (obtain ⟨_, _, _, _, _, _, _, _, _, _, _, rfl, _⟩ := h; rfl)
    | (obtain ⟨_, _, _, _, _, _, _, _, _, _, _, _, rfl, _⟩ := h; rfl)
    | (obtain ⟨_, _, _, _, _, _, _, _, _, _, _, _, _, rfl, _⟩ := h; rfl)
    | (obtain ⟨_, _, _, _, _, _, _, _, _, _, _, _, _, _, rfl, _⟩ := h; rfl)
    | (obtain ⟨_, _, _, _, _, _, _, _, _, _, _, _, _, _, _, rfl, _⟩ := h; rfl)
    | (obtain ⟨_, _, _, _, _, _, _, _, _, _, _, _, _, _, _, _, rfl, _⟩ := h; rfl)
  obtain ⟨m, a, b, g0, g1, t0, t1, rfl, hA, hB, q⟩ := h
  refine ⟨_, (pss_cons (ps_set (i := 3) sc_call_right.nd rfl (Or.inl rfl) (pe_and (pe_fn G_two_hands_right hr rfl (pa_name (pv 1) pa_nil)) (pe_one (pe_fn G_two_hands_right hr rfl (pa_name (pv 2) pa_nil)))))
      (pss_one (ps_ret (pe_and (pv 3) (pe_and (pe_fn G_between hr rfl (pa_const pe_int (pa_name (pv 0) (pa_name (pe_gint rfl B.c_LAST_NUMBER) pa_nil)))) (pe_one (pe_cmpR (k_ne K hr) (pe_ix (k_ix K) (pv 2) pe_int (fun _ _ => rfl)) (pe_ix (k_ix K) (pv 2) pe_int (fun _ _ => rfl)) (nomark _)))))))), ?_⟩
  generalize eg : [handB g0, handB g1].all id = bg at q
  generalize et : [handB t0, handB t1].all id = bt at q
  walk_at "go"
  refine ⟨a, g0, g1, rfl, hA, fun H1 s1 => ?_⟩
  rw [eg]
  -- hands = .. and ..
  refine i_andB (fun e => ?_) (fun e => ?_)
  · subst e
    walk_at "go"
    refine ⟨b, t0, t1, rfl, s1.tup hB, fun H2 s2 => ?_⟩
    rw [et]
    walk_at "go"
    have s3 := s1.trans s2
    rw [Bool.true_and] at q
    refine i_ite (fun e => ?_) (fun e => by have q1 := q _ s3; rw [e] at q1; exact q1)
    rw [e, Bool.true_and] at q
    walk_at "go"
    refine i_between ?_
    refine i_andB (fun e => ?_) (fun e => by have q1 := q _ s3; unfold btw at q1; rw [e] at q1; exact q1)
    unfold btw at q
    rw [e, Bool.true_and] at q
    walk_at "go"
    refine i_ixT (s3.tup hB) (v := .int t0) rfl ?_
    walk_at "go"
    refine i_ixT (s3.tup hB) (v := .int t1) rfl ?_
    walk_at "go"
    exact q _ s3
  · subst e
    walk_at "go"
    exact q _ s1
def sp_range_right (K : PySem.W.Frag) : Sp := fun vs H Q _ => ∃ lo hi : Int, vs = [.int lo, .int hi] ∧ Q (.bl (smallB lo && (smallB hi && decide (lo ≤ hi)))) H
theorem fn_range_right {f : Addr} {fd : FuncData} (B : Bl K mg) {C : Nat → Addr} (Z : Zt K mg C) (G_small_enough : Fn P w K mg base "small_enough" ["number"] 2 (sp_small_enough K)) (F : Fun K "range_right" "range_right" s_range_right f fd) (m : mg "range_right" = some (.ref f)) : Fn P w K mg base "range_right" ["low", "high"] 3 (sp_range_right K) := by
  refine Fn.of (k := 2) F sc_range_right m (fun _ _ _ _ _ _ us hl => match us, hl with | [_, _], _ => rfl) (fun vs H Q E h => ?_) (fun cdv A outer s H vs Q E hr h => ?_)
  · first
    | (obtain ⟨rfl, _⟩ := h; rfl)
    | (obtain ⟨_, rfl, _⟩ := h; rfl)
    | (obtain ⟨_, _, rfl, _⟩ := h; rfl)
    | (obtain ⟨_, _, _, rfl, _⟩ := h; rfl)
    | (obtain ⟨_, _, _, _, rfl, _⟩ := h; rfl)
    | (obtain ⟨_, _, _, _, _, rfl, _⟩ := h; rfl)
    | (obtain ⟨_, _, _, _, _, _, rfl, _⟩ := h; rfl)
    | (obtain ⟨_, _, _, _, _, _, _, rfl, _⟩ := h; rfl)
    | (obtain ⟨_, _, _, _, _, _, _, _, rfl, _⟩ := h; rfl)
    | (obtain ⟨_, _, _, _, _, _, _, _, _, rfl, _⟩ := h; rfl)
    | (obtain ⟨_, _, _, _, _, _, _, _, _, _, rfl, _⟩ := h; rfl)
    | (obtain ⟨_, _, _, _, _, _, _, _, _, _, _, rfl, _⟩ := h; rfl)
    | (obtain ⟨_, _, _, _, _, _, _, _, _, _, _, _, rfl, _⟩ := h; rfl)
    | (obtain ⟨_, _, _, _, _, _, _, _, _, _, _, _, _, rfl, _⟩ := h; rfl)
    | (obtain ⟨_, _, _, _, _, _, _, _, _, _, _, _, _, _, rfl, _⟩ := h; rfl)
    | (obtain ⟨_, _, _, _, _, _, _, _, _, _, _, _, _, _, _, rfl, _⟩ := h; rfl)
    | (obtain ⟨_, _, _, _, _, _, _, _, _, _, _, _, _, _, _, _, rfl, _⟩ := h; rfl)
  obtain ⟨lo, hi, rfl, q⟩ := h
  refine ⟨_, (pss_one (ps_ret (pe_and (pe_fn G_small_enough hr rfl (pa_name (pv 0) pa_nil)) (pe_and (pe_fn G_small_enough hr rfl (pa_name (pv 1) pa_nil)) (pe_one (pe_cmpR op_le (pv 0) (pv 1) (nomark _))))))), ?_⟩
  walk_at "go"
  refine i_small ?_
  refine i_andB (fun e => ?_) (fun e => by rw [e] at q; exact q)
  rw [e, Bool.true_and] at q
  walk_at "go"
  refine i_small ?_
  refine i_andB (fun e => ?_) (fun e => by rw [e] at q; exact q)
  rw [e, Bool.true_and] at q
  walk_at "go"
  exact q
theorem spots78 {K : PySem.W.Frag} {H : Hp} {t : Addr} (h : SqT K H t [.int 7, .int 8]) : SqT K H t ([7, 8].map fun (s : Nat) => V.int (s : Int)) := h
def sp_deed_right (K : PySem.W.Frag) : Sp := fun vs H Q _ => ∃ (v : V) (n : Int) (d : Dd), vs = [v, .int n] ∧ Rep K H (toD d) v ∧ line9 d ∧ ∀ H', Same H H' → Q (.bl (deedOk n d)) H'
theorem reps_cons {K : PySem.W.Frag} {H : Hp} {d : D} {ds : List D} {xs : List V} (h : Reps K H (d :: ds) xs) : ∃ v r, xs = v :: r ∧ Rep K H d v ∧ Reps K H ds r := by unfold Reps at h; exact h
theorem reps_nil {K : PySem.W.Frag} {H : Hp} {xs : List V} (h : Reps K H [] xs) : xs = [] := by unfold Reps at h; exact h
theorem rep_int {K : PySem.W.Frag} {H : Hp} {i : Int} {v : V} (h : Rep K H (.int i) v) : v = .int i := by unfold Rep at h; exact h
theorem rep_str {K : PySem.W.Frag} {H : Hp} {i : Str} {v : V} (h : Rep K H (.str i) v) : v = .str i := by unfold Rep at h; exact h
theorem rep_pair {K : PySem.W.Frag} {H : Hp} {i j : Int} {v : V} (h : Rep K H (.tup [.int i, .int j]) v) : ∃ a, v = .ref a ∧ SqT K H a [.int i, .int j] := by
  obtain ⟨a, xs, rfl, h1, h2⟩ := rep_tup h
  obtain ⟨v1, r1, rfl, e1, h2⟩ := reps_cons h2
  obtain ⟨v2, r2, rfl, e2, h2⟩ := reps_cons h2
  cases reps_nil h2; cases rep_int e1; cases rep_int e2
  exact ⟨a, rfl, h1⟩
theorem ne_part : decide (("part" : Str) = "set") = false := by decide +kernel
theorem ne_draw : decide (("draw" : Str) = "set") = false ∧ decide (("draw" : Str) = "part") = false := by decide +kernel
theorem ne_turn : decide (("turn" : Str) = "set") = false ∧ decide (("turn" : Str) = "part") = false ∧ decide (("turn" : Str) = "draw") = false := by decide +kernel
theorem ne_hold : decide (("hold" : Str) = "set") = false ∧ decide (("hold" : Str) = "part") = false ∧ decide (("hold" : Str) = "draw") = false ∧ decide (("hold" : Str) = "turn") = false := by decide +kernel
theorem ne_call : decide (("call" : Str) = "set") = false ∧ decide (("call" : Str) = "part") = false ∧ decide (("call" : Str) = "draw") = false ∧ decide (("call" : Str) = "turn") = false ∧ decide (("call" : Str) = "hold") = false := by decide +kernel
theorem fn_deed_right {f : Addr} {fd : FuncData} (B : Bl K mg) {C : Nat → Addr} (Z : Zt K mg C) (G_call_right : Fn P w K mg base "call_right" ["number", "given", "taken"] 4 (sp_call_right K)) (G_line_right : Fn P w K mg base "line_right" ["line", "nought_spots"] 3 (sp_line_right K)) (G_hand_right : Fn P w K mg base "hand_right" ["hand"] 2 (sp_hand_right K)) (G_between : Fn P w K mg base "between" ["low", "number", "high"] 1 (sp_between K)) (G_range_right : Fn P w K mg base "range_right" ["low", "high"] 3 (sp_range_right K)) (F : Fun K "deed_right" "deed_right" s_deed_right f fd) (m : mg "deed_right" = some (.ref f)) : Fn P w K mg base "deed_right" ["deed", "last_place"] 5 (sp_deed_right K) := by
  refine Fn.of (k := 4) F sc_deed_right m (fun _ _ _ _ _ _ us hl => match us, hl with | [_, _], _ => rfl) (fun vs H Q E h => ?_) (fun cdv A outer s H vs Q E hr h => ?_)
  · first
    | (obtain ⟨rfl, _⟩ := h; rfl)
    | (obtain ⟨_, rfl, _⟩ := h; rfl)
    | (obtain ⟨_, _, rfl, _⟩ := h; rfl)
    | (obtain ⟨_, _, _, rfl, _⟩ := h; rfl)
    | (obtain ⟨_, _, _, _, rfl, _⟩ := h; rfl)
    | (obtain ⟨_, _, _, _, _, rfl, _⟩ := h; rfl)
    | (obtain ⟨_, _, _, _, _, _, rfl, _⟩ := h; rfl)
    | (obtain ⟨_, _, _, _, _, _, _, rfl, _⟩ := h; rfl)
    | (obtain ⟨_, _, _, _, _, _, _, _, rfl, _⟩ := h; rfl)
    | (obtain ⟨_, _, _, _, _, _, _, _, _, rfl, _⟩ := h; rfl)
    | (obtain ⟨_, _, _, _, _, _, _, _, _, _, rfl, _⟩ := h; rfl)
    | (obtain ⟨_, _, _, _, _, _, _, _, _, _, _, rfl, _⟩ := h; rfl)
    | (obtain ⟨_, _, _, _, _, _, _, _, _, _, _, _, rfl, _⟩ := h; rfl)
    | (obtain ⟨_, _, _, _, _, _, _, _, _, _, _, _, _, rfl, _⟩ := h; rfl)
    | (obtain ⟨_, _, _, _, _, _, _, _, _, _, _, _, _, _, rfl, _⟩ := h; rfl)
    | (obtain ⟨_, _, _, _, _, _, _, _, _, _, _, _, _, _, _, rfl, _⟩ := h; rfl)
    | (obtain ⟨_, _, _, _, _, _, _, _, _, _, _, _, _, _, _, _, rfl, _⟩ := h; rfl)
  obtain ⟨v, n, d, rfl, hR, h9, q⟩ := h
  obtain ⟨gl, g_LEFT_SPOTS, hL⟩ := B.t_LEFT_SPOTS
  refine ⟨_, (pss_cons (ps_set (i := 2) sc_deed_right.nd rfl (Or.inl rfl) (pe_ix (k_ix K) (pv 0) pe_int (fun _ _ => rfl)))
      (pss_cons (ps_if (pt_cmpR (k_eq K hr) (pv 2) pe_str (nomark _)) (pss_one (ps_ret (pe_and (pe_fn G_hand_right hr rfl (pa_sub (pe_ix (k_ix K) (pv 0) pe_int (fun _ _ => rfl)) pa_nil)) (pe_one (pe_fn G_line_right hr rfl (pa_sub (pe_ix (k_ix K) (pv 0) pe_int (fun _ _ => rfl)) (pa_name (pe_gtup rfl g_LEFT_SPOTS) pa_nil))))))) pss_nil)
      (pss_cons (ps_if (pt_cmpR (k_eq K hr) (pv 2) pe_str (nomark _)) (pss_one (ps_ret (pe_and (pe_fn G_hand_right hr rfl (pa_sub (pe_ix (k_ix K) (pv 0) pe_int (fun _ _ => rfl)) pa_nil)) (pe_and (pe_fn G_line_right hr rfl (pa_sub (pe_ix (k_ix K) (pv 0) pe_int (fun _ _ => rfl)) (pa_name (pe_gtup rfl g_LEFT_SPOTS) pa_nil))) (pe_one (pe_fn G_between hr rfl (pa_const pe_int (pa_sub (pe_ix (k_ix K) (pv 0) pe_int (fun _ _ => rfl)) (pa_name (pe_gint rfl B.c_GREATEST_BY) pa_nil))))))))) pss_nil)
      (pss_cons (ps_if (pt_cmpR (k_eq K hr) (pv 2) pe_str (nomark _)) (pss_one (ps_ret (pe_and (pe_fn G_hand_right hr rfl (pa_sub (pe_ix (k_ix K) (pv 0) pe_int (fun _ _ => rfl)) pa_nil)) (pe_one (pe_fn G_range_right hr rfl (pa_sub (pe_ix (k_ix K) (pv 0) pe_int (fun _ _ => rfl)) (pa_sub (pe_ix (k_ix K) (pv 0) pe_int (fun _ _ => rfl)) pa_nil))))))) pss_nil)
      (pss_cons (ps_if (pt_cmpR (k_eq K hr) (pv 2) pe_str (nomark _)) (pss_one (ps_ret (pe_and (pe_fn G_line_right hr rfl (pa_sub (pe_ix (k_ix K) (pv 0) pe_int (fun _ _ => rfl)) (pa_name (pe_gtup rfl g_LEFT_SPOTS) pa_nil))) (pe_one (pe_fn G_between hr rfl (pa_const pe_int (pa_sub (pe_ix (k_ix K) (pv 0) pe_int (fun _ _ => rfl)) (pa_name (pv 1) pa_nil)))))))) pss_nil)
      (pss_cons (ps_if (pt_cmpR (k_eq K hr) (pv 2) pe_str (nomark _)) (pss_one (ps_ret (pe_fn G_line_right hr rfl (pa_sub (pe_ix (k_ix K) (pv 0) pe_int (fun _ _ => rfl)) (pa_name (pe_gtup rfl g_LEFT_SPOTS) pa_nil))))) pss_nil)
      (pss_one (ps_ret (pe_fn G_call_right hr rfl (pa_sub (pe_ix (k_ix K) (pv 0) pe_int (fun _ _ => rfl)) (pa_sub (pe_ix (k_ix K) (pv 0) pe_int (fun _ _ => rfl)) (pa_sub (pe_ix (k_ix K) (pv 0) pe_int (fun _ _ => rfl)) pa_nil)))))))))))), ?_⟩
  have sp9 : ∀ s ∈ ([7, 8] : List Nat), s < 9 := by decide
  cases d with
  | set hd l =>
    obtain ⟨a, xs, rfl, hA, hx⟩ := rep_tup hR
    obtain ⟨v1, r1, rfl, e1, hx⟩ := reps_cons hx
    obtain ⟨v2, r2, rfl, e2, hx⟩ := reps_cons hx
    obtain ⟨v3, r3, rfl, e3, hx⟩ := reps_cons hx
    cases reps_nil hx; cases rep_str e1; cases rep_int e2
    obtain ⟨la, rfl, hla⟩ := rep_ints.mp e3
    walk_at "go"
    refine i_ixT hA (v := .str "set") rfl ?_
    walk_at "go"
    rw [decide_eq_true rfl]
    walk_at "go"
    refine i_ixT hA (v := .int hd) rfl ?_
    walk_at "go"
    refine i_hand ?_
    show ∃ c, V.bl (handB hd) = .bl c ∧ _
    simp only [deedOk] at q
    refine i_andB (fun e => ?_) (fun e => by have q1 := q _ (Same.refl _); rw [e] at q1; exact q1)
    rw [e, Bool.true_and] at q
    walk_at "go"
    refine i_ixT hA (v := .ref la) rfl ?_
    walk_at "go"
    exact ⟨la, gl, l, [7, 8], rfl, hla, hL _, h9, by decide, sp9, fun H1 s1 => q _ s1⟩
  | part hd l b =>
    obtain ⟨a, xs, rfl, hA, hx⟩ := rep_tup hR
    obtain ⟨v1, r1, rfl, e1, hx⟩ := reps_cons hx
    obtain ⟨v2, r2, rfl, e2, hx⟩ := reps_cons hx
    obtain ⟨v3, r3, rfl, e3, hx⟩ := reps_cons hx
    obtain ⟨v4, r4, rfl, e4, hx⟩ := reps_cons hx
    cases reps_nil hx; cases rep_str e1; cases rep_int e2; cases rep_int e4
    obtain ⟨la, rfl, hla⟩ := rep_ints.mp e3
    walk_at "go"
    refine i_ixT hA (v := .str "part") rfl ?_
    walk_at "go"
    rw [ne_part]
    walk_at "go"
    rw [decide_eq_true rfl]
    walk_at "go"
    refine i_ixT hA (v := .int hd) rfl ?_
    walk_at "go"
    refine i_hand ?_
    show ∃ c, V.bl (handB hd) = .bl c ∧ _
    simp only [deedOk] at q
    refine i_andB (fun e => ?_) (fun e => by have q1 := q _ (Same.refl _); rw [e] at q1; exact q1)
    rw [e, Bool.true_and] at q
    walk_at "go"
    refine i_ixT hA (v := .ref la) rfl ?_
    walk_at "go"
    refine ⟨la, gl, l, [7, 8], rfl, hla, hL _, h9, by decide, sp9, fun H1 s1 => ?_⟩
    refine i_andB (fun e => ?_) (fun e => by have q1 := q _ s1; rw [e] at q1; exact q1)
    rw [e, Bool.true_and] at q
    walk_at "go"
    refine i_ixT (s1.tup hA) (v := .int b) rfl ?_
    walk_at "go"
    refine i_between ?_
    exact q _ s1
  | draw hd lo hi =>
    obtain ⟨a, xs, rfl, hA, hx⟩ := rep_tup hR
    obtain ⟨v1, r1, rfl, e1, hx⟩ := reps_cons hx
    obtain ⟨v2, r2, rfl, e2, hx⟩ := reps_cons hx
    obtain ⟨v3, r3, rfl, e3, hx⟩ := reps_cons hx
    obtain ⟨v4, r4, rfl, e4, hx⟩ := reps_cons hx
    cases reps_nil hx; cases rep_str e1; cases rep_int e2; cases rep_int e3; cases rep_int e4
    walk_at "go"
    refine i_ixT hA (v := .str "draw") rfl ?_
    walk_at "go"
    rw [ne_draw.1]
    walk_at "go"
    rw [ne_draw.2]
    walk_at "go"
    rw [decide_eq_true rfl]
    walk_at "go"
    refine i_ixT hA (v := .int hd) rfl ?_
    walk_at "go"
    refine i_hand ?_
    show ∃ c, V.bl (handB hd) = .bl c ∧ _
    simp only [deedOk] at q
    refine i_andB (fun e => ?_) (fun e => by have q1 := q _ (Same.refl _); rw [e] at q1; exact q1)
    rw [e, Bool.true_and] at q
    walk_at "go"
    refine i_ixT hA (v := .int lo) rfl ?_
    walk_at "go"
    refine i_ixT hA (v := .int hi) rfl ?_
    walk_at "go"
    exact ⟨lo, hi, rfl, q _ (Same.refl _)⟩
  | turn l p =>
    obtain ⟨a, xs, rfl, hA, hx⟩ := rep_tup hR
    obtain ⟨v1, r1, rfl, e1, hx⟩ := reps_cons hx
    obtain ⟨v2, r2, rfl, e2, hx⟩ := reps_cons hx
    obtain ⟨v3, r3, rfl, e3, hx⟩ := reps_cons hx
    cases reps_nil hx; cases rep_str e1; cases rep_int e3
    obtain ⟨la, rfl, hla⟩ := rep_ints.mp e2
    walk_at "go"
    refine i_ixT hA (v := .str "turn") rfl ?_
    walk_at "go"
    rw [ne_turn.1]
    walk_at "go"
    rw [ne_turn.2.1]
    walk_at "go"
    rw [ne_turn.2.2]
    walk_at "go"
    rw [decide_eq_true rfl]
    walk_at "go"
    refine i_ixT hA (v := .ref la) rfl ?_
    walk_at "go"
    simp only [deedOk] at q
    refine ⟨la, gl, l, [7, 8], rfl, hla, hL _, h9, by decide, sp9, fun H1 s1 => ?_⟩
    refine i_andB (fun e => ?_) (fun e => by have q1 := q _ s1; rw [e] at q1; exact q1)
    rw [e, Bool.true_and] at q
    walk_at "go"
    refine i_ixT (s1.tup hA) (v := .int p) rfl ?_
    walk_at "go"
    refine i_between ?_
    exact q _ s1
  | hold l =>
    obtain ⟨a, xs, rfl, hA, hx⟩ := rep_tup hR
    obtain ⟨v1, r1, rfl, e1, hx⟩ := reps_cons hx
    obtain ⟨v2, r2, rfl, e2, hx⟩ := reps_cons hx
    cases reps_nil hx; cases rep_str e1
    obtain ⟨la, rfl, hla⟩ := rep_ints.mp e2
    walk_at "go"
    refine i_ixT hA (v := .str "hold") rfl ?_
    walk_at "go"
    rw [ne_hold.1]
    walk_at "go"
    rw [ne_hold.2.1]
    walk_at "go"
    rw [ne_hold.2.2.1]
    walk_at "go"
    rw [ne_hold.2.2.2]
    walk_at "go"
    rw [decide_eq_true rfl]
    walk_at "go"
    refine i_ixT hA (v := .ref la) rfl ?_
    walk_at "go"
    exact ⟨la, gl, l, [7, 8], rfl, hla, hL _, h9, by decide, sp9, fun H1 s1 => q _ s1⟩
  | call m g0 g1 t0 t1 =>
    obtain ⟨a, xs, rfl, hA, hx⟩ := rep_tup hR
    obtain ⟨v1, r1, rfl, e1, hx⟩ := reps_cons hx
    obtain ⟨v2, r2, rfl, e2, hx⟩ := reps_cons hx
    obtain ⟨v3, r3, rfl, e3, hx⟩ := reps_cons hx
    obtain ⟨v4, r4, rfl, e4, hx⟩ := reps_cons hx
    cases reps_nil hx; cases rep_str e1; cases rep_int e2
    obtain ⟨ga, rfl, hga⟩ := rep_pair e3
    obtain ⟨ta, rfl, hta⟩ := rep_pair e4
    walk_at "go"
    refine i_ixT hA (v := .str "call") rfl ?_
    walk_at "go"
    rw [ne_call.1]
    walk_at "go"
    rw [ne_call.2.1]
    walk_at "go"
    rw [ne_call.2.2.1]
    walk_at "go"
    rw [ne_call.2.2.2.1]
    walk_at "go"
    rw [ne_call.2.2.2.2]
    walk_at "go"
    refine i_ixT hA (v := .int m) rfl ?_
    walk_at "go"
    refine i_ixT hA (v := .ref ga) rfl ?_
    walk_at "go"
    refine i_ixT hA (v := .ref ta) rfl ?_
    walk_at "go"
    exact ⟨m, ga, ta, g0, g1, t0, t1, rfl, hga, hta, fun H1 s1 => q _ s1⟩
def sp_deeds_right (K : PySem.W.Frag) : Sp := fun vs H Q _ => ∃ (a : Addr) (ds : List Dd), vs = [.ref a] ∧ Rep K H (.lst (ds.map toD)) (.ref a) ∧ ds.length ≤ 1000 ∧ (∀ d ∈ ds, line9 d) ∧ ∀ H', Same H H' → Q (.bl (deedsOk ds)) H'
theorem fn_deeds_right {f : Addr} {fd : FuncData} (B : Bl K mg) {C : Nat → Addr} (Z : Zt K mg C) (G_between : Fn P w K mg base "between" ["low", "number", "high"] 1 (sp_between K)) (G_deed_right : Fn P w K mg base "deed_right" ["deed", "last_place"] 5 (sp_deed_right K)) (F : Fun K "deeds_right" "deeds_right" s_deeds_right f fd) (m : mg "deeds_right" = some (.ref f)) : Fn P w K mg base "deeds_right" ["deeds"] 6 (sp_deeds_right K) := by
  refine Fn.of (k := 5) F sc_deeds_right m (fun _ _ _ _ _ _ us hl => match us, hl with | [_], _ => rfl) (fun vs H Q E h => ?_) (fun cdv A outer s H vs Q E hr h => ?_)
  · first
    | (obtain ⟨rfl, _⟩ := h; rfl)
    | (obtain ⟨_, rfl, _⟩ := h; rfl)
    | (obtain ⟨_, _, rfl, _⟩ := h; rfl)
    | (obtain ⟨_, _, _, rfl, _⟩ := h; rfl)
    | (obtain ⟨_, _, _, _, rfl, _⟩ := h; rfl)
    | (obtain ⟨_, _, _, _, _, rfl, _⟩ := h; rfl)
    | (obtain ⟨_, _, _, _, _, _, rfl, _⟩ := h; rfl)
    | (obtain ⟨_, _, _, _, _, _, _, rfl, _⟩ := h; rfl)
    | (obtain ⟨_, _, _, _, _, _, _, _, rfl, _⟩ := h; rfl)
    | (obtain ⟨_, _, _, _, _, _, _, _, _, rfl, _⟩ := h; rfl)
    | (obtain ⟨_, _, _, _, _, _, _, _, _, _, rfl, _⟩ := h; rfl)
    | (obtain ⟨_, _, _, _, _, _, _, _, _, _, _, rfl, _⟩ := h; rfl)
    | (obtain ⟨_, _, _, _, _, _, _, _, _, _, _, _, rfl, _⟩ := h; rfl)
    | (obtain ⟨_, _, _, _, _, _, _, _, _, _, _, _, _, rfl, _⟩ := h; rfl)
    | (obtain ⟨_, _, _, _, _, _, _, _, _, _, _, _, _, _, rfl, _⟩ := h; rfl)
    | (obtain ⟨_, _, _, _, _, _, _, _, _, _, _, _, _, _, _, rfl, _⟩ := h; rfl)
    | (obtain ⟨_, _, _, _, _, _, _, _, _, _, _, _, _, _, _, _, rfl, _⟩ := h; rfl)
  obtain ⟨a, ds, rfl, hA, l1000, h9, q⟩ := h
  refine ⟨_, (pss_cons (ps_set (i := 1) sc_deeds_right.nd rfl (Or.inr rfl) (pe_callB (k_len K) rfl B.len L2.boot_len (pa_name (pv 0) pa_nil)))
      (pss_one (ps_ret (pe_and (pe_fn G_between hr rfl (pa_const pe_int (pa_name (pv 1) (pa_name (pe_gint rfl B.c_MOST_DEEDS) pa_nil)))) (pe_one (pe_callB (k_all K rfl) rfl B.all L2.boot_all (pa_comp (pe_comp rfl (CompOk.mk' (sc0 := defScope s_deeds_right) (N := ["deeds", "count"]) (N' := ["deeds", "count", "deed"]) (ms := [false, false, true]) rfl (by decide +kernel) (by decide +kernel) (by decide +kernel) rfl (by decide +kernel)) (k_ilist K (pv 0)) (fun _ _ _ _ _ => (pg_name (i := 2) (show List.Nodup (["deeds", "count", "deed"] : List Str) by decide +kernel) rfl (Or.inl rfl))) (fun _ _ _ _ _ => pifs_nil) (fun _ _ _ _ _ => (pe_fn G_deed_right hr rfl (pa_name (pv 2) (pa_name (pv 1) pa_nil))))) pa_nil))))))), ?_⟩
  unfold Rep at hA
  obtain ⟨a', xs, e, hA, hx⟩ := hA
  cases e
  have lx := hx.length
  rw [List.length_map] at lx
  unfold deedsOk btw at q
  walk_at "go"
  refine i_len (.inl hA) ?_
  rw [← lx]
  walk_at "go"
  refine i_between ?_
  refine i_andB (fun e => ?_) (fun e => by have q1 := q _ (Same.refl _); rw [e] at q1; exact q1)
  rw [e, Bool.true_and] at q
  walk_at "go"
  refine ⟨a, rfl, ⟨_, hA⟩, ?_⟩
  refine comp_gen (goes_list hA) ((ds.map (deedOk (ds.length : Int))).map D.bl) (by simp; omega) (small_le (by omega)) (fun k x d H1 R hk hd s1 hx' hR => ?_) (fun v H1 s1 n1 => ?_)
  · obtain ⟨d2, hd2, hrx⟩ := Reps.get' hx hx'
    rw [List.getElem?_map] at hd2
    obtain ⟨l, hl, rfl⟩ := Option.map_eq_some_iff.mp hd2
    rw [List.getElem?_map, List.getElem?_map, hl] at hd
    cases hd
    walk_at "go"
    refine ⟨_, _, l, rfl, Rep.same s1 _ hrx, h9 l (List.mem_of_getElem? hl), fun H2 s2 => ?_⟩
    exact hR _ _ s2 New.bl
  obtain ⟨la, rfl, la0, la1⟩ := New.bls n1
  walk_at "go"
  refine i_all (SqL.of la1) ?_
  exact q _ s1
def sp_notes_right (K : PySem.W.Frag) (C : Nat → Addr) : Sp := fun vs H Q _ => ∃ (p : Addr) (needs leaves : List (List Int)) (ds : List Dd) (notes : List (List (List Int))), vs = [.ref p] ∧ CraftAt K C H p needs leaves (ds.map toD) notes ∧ notes.length ≤ 1000 ∧ (∀ ls ∈ notes, ls.length ≤ 1000 ∧ ∀ l ∈ ls, l.length = 9) ∧ ∀ H', Same H H' → Q (.bl (notesOk ds notes)) H'
theorem fn_notes_right {f : Addr} {fd : FuncData} (B : Bl K mg) {C : Nat → Addr} (Z : Zt K mg C) (G_lines_right : Fn P w K mg base "lines_right" ["lines", "nought_spots"] 4 (sp_lines_right K)) (F : Fun K "notes_right" "notes_right" s_notes_right f fd) (m : mg "notes_right" = some (.ref f)) : Fn P w K mg base "notes_right" ["craft"] 5 (sp_notes_right K C) := by
  refine Fn.of (k := 4) F sc_notes_right m (fun _ _ _ _ _ _ us hl => match us, hl with | [_], _ => rfl) (fun vs H Q E h => ?_) (fun cdv A outer s H vs Q E hr h => ?_)
  · first
    | (obtain ⟨rfl, _⟩ := h; rfl)
    | (obtain ⟨_, rfl, _⟩ := h; rfl)
    | (obtain ⟨_, _, rfl, _⟩ := h; rfl)
    | (obtain ⟨_, _, _, rfl, _⟩ := h; rfl)
    | (obtain ⟨_, _, _, _, rfl, _⟩ := h; rfl)
    | (obtain ⟨_, _, _, _, _, rfl, _⟩ := h; rfl)
    | (obtain ⟨_, _, _, _, _, _, rfl, _⟩ := h; rfl)
    | (obtain ⟨_, _, _, _, _, _, _, rfl, _⟩ := h; rfl)
    | (obtain ⟨_, _, _, _, _, _, _, _, rfl, _⟩ := h; rfl)
    | (obtain ⟨_, _, _, _, _, _, _, _, _, rfl, _⟩ := h; rfl)
    | (obtain ⟨_, _, _, _, _, _, _, _, _, _, rfl, _⟩ := h; rfl)
    | (obtain ⟨_, _, _, _, _, _, _, _, _, _, _, rfl, _⟩ := h; rfl)
    | (obtain ⟨_, _, _, _, _, _, _, _, _, _, _, _, rfl, _⟩ := h; rfl)
    | (obtain ⟨_, _, _, _, _, _, _, _, _, _, _, _, _, rfl, _⟩ := h; rfl)
    | (obtain ⟨_, _, _, _, _, _, _, _, _, _, _, _, _, _, rfl, _⟩ := h; rfl)
    | (obtain ⟨_, _, _, _, _, _, _, _, _, _, _, _, _, _, _, rfl, _⟩ := h; rfl)
    | (obtain ⟨_, _, _, _, _, _, _, _, _, _, _, _, _, _, _, _, rfl, _⟩ := h; rfl)
  obtain ⟨p, needs, leaves, ds, notes, rfl, hC, l1000, h9, q⟩ := h
  obtain ⟨gl, g_LEFT_SPOTS, hL⟩ := B.t_LEFT_SPOTS
  have sp9 : ∀ s ∈ ([7, 8] : List Nat), s < 9 := by decide
  refine ⟨_, (pss_cons (ps_set (i := 1) sc_notes_right.nd rfl (Or.inl rfl) (pe_cmpR (k_eq K hr) (pe_callB (k_len K) rfl B.len L2.boot_len (pa_attr (k_fld K (pv 0) rfl) pa_nil)) (pe_callB (k_len K) rfl B.len L2.boot_len (pa_attr (k_fld K (pv 0) rfl) pa_nil)) (nomark _)))
      (pss_one (ps_ret (pe_and (pv 1) (pe_one (pe_callB (k_all K rfl) rfl B.all L2.boot_all (pa_comp (pe_comp rfl (CompOk.mk' (sc0 := defScope s_notes_right) (N := ["craft", "as_many"]) (N' := ["craft", "as_many", "lines"]) (ms := [false, false, true]) rfl (by decide +kernel) (by decide +kernel) (by decide +kernel) rfl (by decide +kernel)) (k_ilist K (k_fld K (pv 0) rfl)) (fun _ _ _ _ _ => (pg_name (i := 2) (show List.Nodup (["craft", "as_many", "lines"] : List Str) by decide +kernel) rfl (Or.inl rfl))) (fun _ _ _ _ _ => pifs_nil) (fun _ _ _ _ _ => (pe_fn G_lines_right hr rfl (pa_name (pv 2) (pa_name (pe_gtup rfl g_LEFT_SPOTS) pa_nil))))) pa_nil))))))), ?_⟩
  obtain ⟨dx, w1, w2, w3, w4, hp, r1, r2, r3, r4⟩ := hC
  unfold Rep at r3 r4
  obtain ⟨b3, xs3, rfl, q3, z3⟩ := r3
  obtain ⟨b4, xs4, rfl, q4, z4⟩ := r4
  have m3 := z3.length
  have m4 := z4.length
  rw [List.length_map] at m3 m4
  unfold notesOk at q
  walk_at "go"
  refine ⟨p, C 0, dx, _, _, rfl, hp, Z.c_Craft, Z.n_Craft_notes, fl_notes _ _ _ _, ?_⟩
  walk_at "go"
  refine i_len (.inl q4) ?_
  walk_at "go"
  refine ⟨p, C 0, dx, _, _, rfl, hp, Z.c_Craft, Z.n_Craft_deeds, fl_deeds _ _ _ _, ?_⟩
  walk_at "go"
  refine i_len (.inl q3) ?_
  rw [← m3, ← m4]
  walk_at "go"
  refine i_ite (fun e => ?_) (fun e => by have q1 := q _ (Same.refl _); rw [e] at q1; exact q1)
  rw [e, Bool.true_and] at q
  walk_at "go"
  refine ⟨p, C 0, dx, _, _, rfl, hp, Z.c_Craft, Z.n_Craft_notes, fl_notes _ _ _ _, ?_⟩
  refine ⟨b4, rfl, ⟨_, q4⟩, ?_⟩
  refine comp_gen (goes_list q4) ((notes.map (linesOk [7, 8])).map D.bl) (by simp; omega) (small_le (by omega)) (fun k x d H1 R hk hd s1 hx' hR => ?_) (fun v H1 s1 n1 => ?_)
  · obtain ⟨d2, hd2, hrx⟩ := Reps.get' z4 hx'
    rw [List.getElem?_map] at hd2
    obtain ⟨l, hl, rfl⟩ := Option.map_eq_some_iff.mp hd2
    rw [List.getElem?_map, List.getElem?_map, hl] at hd
    cases hd
    have hr' := Rep.same s1 _ hrx
    obtain ⟨xa, rfl⟩ : ∃ b, x = .ref b := by unfold linesV Rep at hrx; obtain ⟨a, _, e, _⟩ := hrx; exact ⟨a, e⟩
    have h9' := h9 l (List.mem_of_getElem? hl)
    walk_at "go"
    refine ⟨xa, gl, l, [7, 8], rfl, hr', hL _, h9'.1, h9'.2, by decide, sp9, fun H2 s2 => ?_⟩
    exact hR _ _ s2 New.bl
  obtain ⟨la, rfl, la0, la1⟩ := New.bls n1
  walk_at "go"
  refine i_all (SqL.of la1) ?_
  exact q _ s1
def sp_right (K : PySem.W.Frag) (C : Nat → Addr) : Sp := fun vs H Q _ => ∃ (p : Addr) (needs leaves : List (List Int)) (ds : List Dd) (notes : List (List (List Int))), vs = [.ref p] ∧ CraftAt K C H p needs leaves (ds.map toD) notes ∧ needs.length ≤ 1000 ∧ leaves.length ≤ 1000 ∧ ds.length ≤ 1000 ∧ notes.length ≤ 1000 ∧ (∀ l ∈ needs, l.length = 9) ∧ (∀ l ∈ leaves, l.length = 9) ∧ (∀ d ∈ ds, line9 d) ∧ (∀ ls ∈ notes, ls.length ≤ 1000 ∧ ∀ l ∈ ls, l.length = 9) ∧ ∀ H', Same H H' → Q (.bl (rightD needs leaves ds notes)) H'
theorem fn_right {f : Addr} {fd : FuncData} (B : Bl K mg) {C : Nat → Addr} (Z : Zt K mg C) (G_oath_right : Fn P w K mg base "oath_right" ["craft"] 5 (sp_oath_right K C)) (G_deeds_right : Fn P w K mg base "deeds_right" ["deeds"] 6 (sp_deeds_right K)) (G_notes_right : Fn P w K mg base "notes_right" ["craft"] 5 (sp_notes_right K C)) (F : Fun K "right" "right" s_right f fd) (m : mg "right" = some (.ref f)) : Fn P w K mg base "right" ["craft"] 7 (sp_right K C) := by
  refine Fn.of (k := 6) F sc_right m (fun _ _ _ _ _ _ us hl => match us, hl with | [_], _ => rfl) (fun vs H Q E h => ?_) (fun cdv A outer s H vs Q E hr h => ?_)
  · first
    | (obtain ⟨rfl, _⟩ := h; rfl)
    | (obtain ⟨_, rfl, _⟩ := h; rfl)
    | (obtain ⟨_, _, rfl, _⟩ := h; rfl)
    | (obtain ⟨_, _, _, rfl, _⟩ := h; rfl)
    | (obtain ⟨_, _, _, _, rfl, _⟩ := h; rfl)
    | (obtain ⟨_, _, _, _, _, rfl, _⟩ := h; rfl)
    | (obtain ⟨_, _, _, _, _, _, rfl, _⟩ := h; rfl)
    | (obtain ⟨_, _, _, _, _, _, _, rfl, _⟩ := h; rfl)
    | (obtain ⟨_, _, _, _, _, _, _, _, rfl, _⟩ := h; rfl)
    | (obtain ⟨_, _, _, _, _, _, _, _, _, rfl, _⟩ := h; rfl)
    | (obtain ⟨_, _, _, _, _, _, _, _, _, _, rfl, _⟩ := h; rfl)
    | (obtain ⟨_, _, _, _, _, _, _, _, _, _, _, rfl, _⟩ := h; rfl)
    | (obtain ⟨_, _, _, _, _, _, _, _, _, _, _, _, rfl, _⟩ := h; rfl)
    | (obtain ⟨_, _, _, _, _, _, _, _, _, _, _, _, _, rfl, _⟩ := h; rfl)
    | (obtain ⟨_, _, _, _, _, _, _, _, _, _, _, _, _, _, rfl, _⟩ := h; rfl)
    | (obtain ⟨_, _, _, _, _, _, _, _, _, _, _, _, _, _, _, rfl, _⟩ := h; rfl)
    | (obtain ⟨_, _, _, _, _, _, _, _, _, _, _, _, _, _, _, _, rfl, _⟩ := h; rfl)
  obtain ⟨p, needs, leaves, ds, notes, rfl, hC, ln, ll, ld, lo, h9n, h9l, h9d, h9o, q⟩ := h
  refine ⟨_, (pss_one (ps_ret (pe_and (pe_fn G_oath_right hr rfl (pa_name (pv 0) pa_nil)) (pe_and (pe_fn G_deeds_right hr rfl (pa_attr (k_fld K (pv 0) rfl) pa_nil)) (pe_one (pe_fn G_notes_right hr rfl (pa_name (pv 0) pa_nil))))))), ?_⟩
  unfold rightD at q
  walk_at "go"
  refine ⟨p, needs, leaves, _, notes, rfl, hC, ln, ll, h9n, h9l, fun H1 s1 => ?_⟩
  refine i_andB (fun e => ?_) (fun e => by have q1 := q _ s1; rw [e] at q1; exact q1)
  rw [e, Bool.true_and] at q
  walk_at "go"
  obtain ⟨dx, w1, w2, w3, w4, hp, r1, r2, r3, r4⟩ := CraftAt.same s1 hC
  obtain ⟨b3, rfl⟩ : ∃ b, w3 = .ref b := by unfold Rep at r3; obtain ⟨a, _, e, _⟩ := r3; exact ⟨a, e⟩
  refine ⟨p, C 0, dx, _, _, rfl, hp, Z.c_Craft, Z.n_Craft_deeds, fl_deeds _ _ _ _, ?_⟩
  walk_at "go"
  refine ⟨b3, ds, rfl, r3, ld, h9d, fun H2 s2 => ?_⟩
  have s3 := s1.trans s2
  refine i_andB (fun e => ?_) (fun e => by have q1 := q _ s3; rw [e] at q1; exact q1)
  rw [e, Bool.true_and] at q
  walk_at "go"
  exact ⟨p, needs, leaves, ds, notes, rfl, CraftAt.same s3 hC, lo, h9o, fun H4 s4 => q _ (s3.trans s4)⟩
def sp_l_cell_at (K : PySem.W.Frag) : Sp := fun vs H Q _ => ∃ (a : Addr) (k : Int) (ns : List Int), vs = [.ref a, .int k] ∧ SqL K H a (ns.map V.int) ∧ 0 ≤ k ∧ Q (.int (cell ns k)) H
theorem i_cell {H : Hp} {Q : VK} {E : XK} {a : Addr} {k : Int} {ns : List Int} (h : SqL K H a (ns.map V.int)) (hk : 0 ≤ k) (q : Q (.int (cell ns k)) H) : sp_l_cell_at K [.ref a, .int k] H Q E := ⟨a, k, ns, rfl, h, hk, q⟩
theorem fn_l_cell_at {f : Addr} {fd : FuncData} (B : Bl K mg) {C : Nat → Addr} (Z : Zt K mg C)  (F : Fun K "_law_cell_at" "_law_cell_at" s_l_cell_at f fd) (m : mg "_law_cell_at" = some (.ref f)) : Fn P w K mg base "_law_cell_at" ["script", "k"] 1 (sp_l_cell_at K) := by
  refine Fn.of (k := 0) F sc_l_cell_at m (fun _ _ _ _ _ _ us hl => match us, hl with | [_, _], _ => rfl) (fun vs H Q E h => ?_) (fun cdv A outer s H vs Q E hr h => ?_)
  · first
    | (obtain ⟨rfl, _⟩ := h; rfl)
    | (obtain ⟨_, rfl, _⟩ := h; rfl)
    | (obtain ⟨_, _, rfl, _⟩ := h; rfl)
    | (obtain ⟨_, _, _, rfl, _⟩ := h; rfl)
    | (obtain ⟨_, _, _, _, rfl, _⟩ := h; rfl)
    | (obtain ⟨_, _, _, _, _, rfl, _⟩ := h; rfl)
    | (obtain ⟨_, _, _, _, _, _, rfl, _⟩ := h; rfl)
    | (obtain ⟨_, _, _, _, _, _, _, rfl, _⟩ := h; rfl)
    | (obtain ⟨_, _, _, _, _, _, _, _, rfl, _⟩ := h; rfl)
    | (obtain ⟨_, _, _, _, _, _, _, _, _, rfl, _⟩ := h; rfl)
    | (obtain ⟨_, _, _, _, _, _, _, _, _, _, rfl, _⟩ := h; rfl)
    | (obtain ⟨_, _, _, _, _, _, _, _, _, _, _, rfl, _⟩ := h; rfl)
    | (obtain ⟨_, _, _, _, _, _, _, _, _, _, _, _, rfl, _⟩ := h; rfl)
    | (obtain ⟨_, _, _, _, _, _, _, _, _, _, _, _, _, rfl, _⟩ := h; rfl)
    | (obtain ⟨_, _, _, _, _, _, _, _, _, _, _, _, _, _, rfl, _⟩ := h; rfl)
    | (obtain ⟨_, _, _, _, _, _, _, _, _, _, _, _, _, _, _, rfl, _⟩ := h; rfl)
    | (obtain ⟨_, _, _, _, _, _, _, _, _, _, _, _, _, _, _, _, rfl, _⟩ := h; rfl)
  obtain ⟨a, k, ns, rfl, hS, hk, q⟩ := h
  refine ⟨_, (pss_cons (ps_if (pt_cmpR op_lt (pv 1) (pe_callB (k_len K) rfl B.len L2.boot_len (pa_name (pv 0) pa_nil)) (nomark _)) (pss_one (ps_ret (pe_ix (k_ix K) (pv 0) (pv 1) (fun _ _ => rfl)))) pss_nil)
      (pss_one (ps_ret pe_int))), ?_⟩
  walk_at "go"
  refine i_len (.inl hS) ?_
  walk_at "go"
  rw [List.length_map]
  unfold cell at q
  refine ite2 (fun e => ?_) (fun e => ?_)
  · have e' : k < (ns.length : Int) := of_decide_eq_true e
    walk_at "go"
    have hl : k.toNat < ns.length := by omega
    refine i_ixL hS (v := .int (ns.getD k.toNat 0)) ?_ q
    have z : atI (ns.map V.int) ((k.toNat : Nat) : Int) = some (.int (ns.getD k.toNat 0)) := atI_nat (by simp [hl])
    rwa [show ((k.toNat : Nat) : Int) = k by omega] at z
  · have e' : ¬ k < (ns.length : Int) := of_decide_eq_false (Bool.eq_false_iff.mpr e)
    walk_at "go"
    have hl : ns.getD k.toNat 0 = 0 := by simp [List.getD, List.getElem?_eq_none (show ns.length ≤ k.toNat by omega)]
    rw [hl] at q
    exact q
def sp_l_mix (K : PySem.W.Frag) : Sp := fun vs H Q _ => ∃ c k m : Int, vs = [.int c, .int k, .int m] ∧ 0 < m ∧ Q (.int (mix c k m)) H
theorem i_mix {H : Hp} {Q : VK} {E : XK} {c k m : Int} (h : 0 < m) (q : Q (.int (mix c k m)) H) : sp_l_mix K [.int c, .int k, .int m] H Q E := ⟨c, k, m, rfl, h, q⟩
theorem fn_l_mix {f : Addr} {fd : FuncData} (B : Bl K mg) {C : Nat → Addr} (Z : Zt K mg C)  (F : Fun K "_law_mix" "_law_mix" s_l_mix f fd) (m : mg "_law_mix" = some (.ref f)) : Fn P w K mg base "_law_mix" ["cell", "k", "many"] 1 (sp_l_mix K) := by
  refine Fn.of (k := 0) F sc_l_mix m (fun _ _ _ _ _ _ us hl => match us, hl with | [_, _, _], _ => rfl) (fun vs H Q E h => ?_) (fun cdv A outer s H vs Q E hr h => ?_)
  · first
    | (obtain ⟨rfl, _⟩ := h; rfl)
    | (obtain ⟨_, rfl, _⟩ := h; rfl)
    | (obtain ⟨_, _, rfl, _⟩ := h; rfl)
    | (obtain ⟨_, _, _, rfl, _⟩ := h; rfl)
    | (obtain ⟨_, _, _, _, rfl, _⟩ := h; rfl)
    | (obtain ⟨_, _, _, _, _, rfl, _⟩ := h; rfl)
    | (obtain ⟨_, _, _, _, _, _, rfl, _⟩ := h; rfl)
    | (obtain ⟨_, _, _, _, _, _, _, rfl, _⟩ := h; rfl)
    | (obtain ⟨_, _, _, _, _, _, _, _, rfl, _⟩ := h; rfl)
    | (obtain ⟨_, _, _, _, _, _, _, _, _, rfl, _⟩ := h; rfl)
    | (obtain ⟨_, _, _, _, _, _, _, _, _, _, rfl, _⟩ := h; rfl)
    | (obtain ⟨_, _, _, _, _, _, _, _, _, _, _, rfl, _⟩ := h; rfl)
    | (obtain ⟨_, _, _, _, _, _, _, _, _, _, _, _, rfl, _⟩ := h; rfl)
    | (obtain ⟨_, _, _, _, _, _, _, _, _, _, _, _, _, rfl, _⟩ := h; rfl)
    | (obtain ⟨_, _, _, _, _, _, _, _, _, _, _, _, _, _, rfl, _⟩ := h; rfl)
    | (obtain ⟨_, _, _, _, _, _, _, _, _, _, _, _, _, _, _, rfl, _⟩ := h; rfl)
    | (obtain ⟨_, _, _, _, _, _, _, _, _, _, _, _, _, _, _, _, rfl, _⟩ := h; rfl)
  obtain ⟨c, k, m, rfl, hm, q⟩ := h
  refine ⟨_, (pss_one (ps_ret (pe_op op_mod (pe_op op_fdiv (pe_op op_mod (pe_op op_times (pe_op (k_plus K) (pe_op op_mod (pv 0) pe_int) pe_int) (pe_op (k_plus K) pe_int (pe_op op_times pe_int (pv 1)))) pe_int) pe_int) (pv 2)))), ?_⟩
  have h1 := Int.emod_nonneg c (show (2147483647 : Int) ≠ 0 by decide)
  have h2 := Int.emod_lt_of_pos c (show (0 : Int) < 2147483647 by decide)
  walk_at "go"
  exact q
def sp_l_number (K : PySem.W.Frag) : Sp := fun vs H Q _ => ∃ c k : Int, vs = [.int c, .int k] ∧ ∀ H', Same H H' → Q (.int (number c k)) H'
theorem i_number {H : Hp} {Q : VK} {E : XK} {c k : Int} (q : ∀ H', Same H H' → Q (.int (number c k)) H') : sp_l_number K [.int c, .int k] H Q E := ⟨c, k, rfl, q⟩
theorem fn_l_number {f : Addr} {fd : FuncData} (B : Bl K mg) {C : Nat → Addr} (Z : Zt K mg C) (G_l_mix : Fn P w K mg base "_law_mix" ["cell", "k", "many"] 1 (sp_l_mix K)) (F : Fun K "_law_number" "_law_number" s_l_number f fd) (m : mg "_law_number" = some (.ref f)) : Fn P w K mg base "_law_number" ["cell", "k"] 2 (sp_l_number K) := by
  refine Fn.of (k := 1) F sc_l_number m (fun _ _ _ _ _ _ us hl => match us, hl with | [_, _], _ => rfl) (fun vs H Q E h => ?_) (fun cdv A outer s H vs Q E hr h => ?_)
  · first
    | (obtain ⟨rfl, _⟩ := h; rfl)
    | (obtain ⟨_, rfl, _⟩ := h; rfl)
    | (obtain ⟨_, _, rfl, _⟩ := h; rfl)
    | (obtain ⟨_, _, _, rfl, _⟩ := h; rfl)
    | (obtain ⟨_, _, _, _, rfl, _⟩ := h; rfl)
    | (obtain ⟨_, _, _, _, _, rfl, _⟩ := h; rfl)
    | (obtain ⟨_, _, _, _, _, _, rfl, _⟩ := h; rfl)
    | (obtain ⟨_, _, _, _, _, _, _, rfl, _⟩ := h; rfl)
    | (obtain ⟨_, _, _, _, _, _, _, _, rfl, _⟩ := h; rfl)
    | (obtain ⟨_, _, _, _, _, _, _, _, _, rfl, _⟩ := h; rfl)
    | (obtain ⟨_, _, _, _, _, _, _, _, _, _, rfl, _⟩ := h; rfl)
    | (obtain ⟨_, _, _, _, _, _, _, _, _, _, _, rfl, _⟩ := h; rfl)
    | (obtain ⟨_, _, _, _, _, _, _, _, _, _, _, _, rfl, _⟩ := h; rfl)
    | (obtain ⟨_, _, _, _, _, _, _, _, _, _, _, _, _, rfl, _⟩ := h; rfl)
    | (obtain ⟨_, _, _, _, _, _, _, _, _, _, _, _, _, _, rfl, _⟩ := h; rfl)
    | (obtain ⟨_, _, _, _, _, _, _, _, _, _, _, _, _, _, _, rfl, _⟩ := h; rfl)
    | (obtain ⟨_, _, _, _, _, _, _, _, _, _, _, _, _, _, _, _, rfl, _⟩ := h; rfl)
  obtain ⟨c, k, rfl, q⟩ := h
  refine ⟨_, (pss_cons (ps_set (i := 2) sc_l_number.nd rfl (Or.inl rfl) (pe_fn G_l_mix hr rfl (pa_name (pv 0) (pa_name (pv 1) (pa_const pe_int pa_nil)))))
      (pss_cons (ps_if (pt_cmpR (k_eq K hr) (pv 2) pe_int (nomark _)) (pss_one (ps_ret (pe_op op_sub (pe_op op_mod (pv 0) (pe_op (k_plus K) (pe_op op_times pe_int (pe_op op_pow pe_int pe_int)) pe_int)) (pe_op op_pow pe_int pe_int)))) pss_nil)
      (pss_cons (ps_if (pt_cmpR (k_eq K hr) (pv 2) pe_int (nomark _)) (pss_one (ps_ret (pe_ix (k_ix K) (pe_lst (pa_bin (pe_op op_pow pe_int pe_int) (pa_un (pe_un un_neg (pe_op op_pow pe_int pe_int)) (pa_const pe_int (pa_un (pe_un un_neg pe_int) pa_nil))))) (pe_fn G_l_mix hr rfl (pa_name (pv 0) (pa_bin (pe_op (k_plus K) (pv 1) pe_int) (pa_const pe_int pa_nil)))) (fun _ _ => rfl)))) pss_nil)
      (pss_one (ps_ret (pe_op op_sub (pe_fn G_l_mix hr rfl (pa_name (pv 0) (pa_bin (pe_op (k_plus K) (pv 1) pe_int) (pa_const pe_int pa_nil)))) pe_int)))))), ?_⟩
  have n1 := mix_nonneg (c := c) (k := k + 1) (m := 4) (by decide)
  have n2 := mix_lt (c := c) (k := k + 1) (m := 4) (by decide)
  walk_at "go"
  refine i_mix (by decide) ?_
  walk_at "go"
  refine ite2 (fun e => ?_) (fun e => ?_)
  · have e' : mix c k 9 = 0 := of_decide_eq_true e
    walk_at "go"
    have q' := q H (Same.refl H)
    unfold number at q'
    rw [if_pos e'] at q'
    exact q'
  · have e' : ¬ mix c k 9 = 0 := of_decide_eq_false (Bool.eq_false_iff.mpr e)
    walk_at "go"
    refine ite2 (fun e2 => ?_) (fun e2 => ?_)
    · have e2' : mix c k 9 = 1 := of_decide_eq_true e2
      walk_at "go"
      refine ⟨by decide, fun p hp => ?_⟩
      walk_at "go"
      refine i_mix (by decide) ?_
      have q' := q (upd H p (.lst [.int 1000000000, .int (-1000000000), .int 999999999, .int (-999999999)])) (same_upd hp _)
      unfold number at q'
      rw [if_neg e', if_pos e2'] at q'
      refine i_ixL (SqL.of upd_same) ?_ q'
      have c4 : mix c (k + 1) 4 = 0 ∨ mix c (k + 1) 4 = 1 ∨ mix c (k + 1) 4 = 2 ∨ mix c (k + 1) 4 = 3 := by omega
      rcases c4 with z | z | z | z <;> rw [z] <;> rfl
    · have e2' : ¬ mix c k 9 = 1 := of_decide_eq_false (Bool.eq_false_iff.mpr e2)
      walk_at "go"
      refine i_mix (by decide) ?_
      walk_at "go"
      have q' := q H (Same.refl H)
      unfold number at q'
      rw [if_neg e', if_neg e2'] at q'
      exact q'
def sp_l_line_by (K : PySem.W.Frag) : Sp := fun vs H Q _ => ∃ (c : Int) (za : Addr) (zs : List Int), vs = [.int c, .ref za] ∧ SqL K H za (zs.map V.int) ∧ ∀ v H', Same H H' → New H H' (nums (lineBy c zs)) v → Q v H'
theorem flat_ints (zs : List Int) : (zs.map V.int).all flatV = true := by rw [List.all_map, List.all_eq_true]; intro x _; rfl
theorem fn_l_line_by {f : Addr} {fd : FuncData} (B : Bl K mg) {C : Nat → Addr} (Z : Zt K mg C) (G_l_number : Fn P w K mg base "_law_number" ["cell", "k"] 2 (sp_l_number K)) (G_l_mix : Fn P w K mg base "_law_mix" ["cell", "k", "many"] 1 (sp_l_mix K)) (F : Fun K "_law_line_by" "_law_line_by" s_l_line_by f fd) (m : mg "_law_line_by" = some (.ref f)) : Fn P w K mg base "_law_line_by" ["cell", "zero"] 3 (sp_l_line_by K) := by
  refine Fn.of (k := 2) F sc_l_line_by m (fun _ _ _ _ _ _ us hl => match us, hl with | [_, _], _ => rfl) (fun vs H Q E h => ?_) (fun cdv A outer s H vs Q E hr h => ?_)
  · first
    | (obtain ⟨rfl, _⟩ := h; rfl)
    | (obtain ⟨_, rfl, _⟩ := h; rfl)
    | (obtain ⟨_, _, rfl, _⟩ := h; rfl)
    | (obtain ⟨_, _, _, rfl, _⟩ := h; rfl)
    | (obtain ⟨_, _, _, _, rfl, _⟩ := h; rfl)
    | (obtain ⟨_, _, _, _, _, rfl, _⟩ := h; rfl)
    | (obtain ⟨_, _, _, _, _, _, rfl, _⟩ := h; rfl)
    | (obtain ⟨_, _, _, _, _, _, _, rfl, _⟩ := h; rfl)
    | (obtain ⟨_, _, _, _, _, _, _, _, rfl, _⟩ := h; rfl)
    | (obtain ⟨_, _, _, _, _, _, _, _, _, rfl, _⟩ := h; rfl)
    | (obtain ⟨_, _, _, _, _, _, _, _, _, _, rfl, _⟩ := h; rfl)
    | (obtain ⟨_, _, _, _, _, _, _, _, _, _, _, rfl, _⟩ := h; rfl)
    | (obtain ⟨_, _, _, _, _, _, _, _, _, _, _, _, rfl, _⟩ := h; rfl)
    | (obtain ⟨_, _, _, _, _, _, _, _, _, _, _, _, _, rfl, _⟩ := h; rfl)
    | (obtain ⟨_, _, _, _, _, _, _, _, _, _, _, _, _, _, rfl, _⟩ := h; rfl)
    | (obtain ⟨_, _, _, _, _, _, _, _, _, _, _, _, _, _, _, rfl, _⟩ := h; rfl)
    | (obtain ⟨_, _, _, _, _, _, _, _, _, _, _, _, _, _, _, _, rfl, _⟩ := h; rfl)
  obtain ⟨c, za, zs, rfl, hZ, q⟩ := h
  refine ⟨_, (pss_cons (ps_setComp (i := 2) sc_l_line_by.nd rfl rfl rfl (CompOk.mk' (sc0 := defScope s_l_line_by) (N := ["cell", "zero", "line", "k"]) (N' := ["cell", "zero", "line", "k"]) (ms := [false, false, false, true]) rfl (by decide +kernel) (by decide +kernel) (by decide +kernel) rfl (by decide +kernel)) (pi_range1 rfl B.range (pa_const pe_int pa_nil)) (fun _ _ _ _ _ => (pg_name (i := 3) (show List.Nodup (["cell", "zero", "line", "k"] : List Str) by decide +kernel) rfl (Or.inl rfl))) (fun _ _ _ _ _ => pifs_nil) (fun _ _ _ _ _ => (pe_fn G_l_number hr rfl (pa_name (pv 0) (pa_bin (pe_op op_times pe_int (pv 3)) pa_nil)))))
      (pss_cons (ps_for PassesOwn.never rfl (pi_range1 rfl B.range (pa_const pe_int pa_nil)) (pg_name (i := 3) sc_l_line_by.nd rfl (Or.inl rfl)) (pss_one (ps_if (PW.pt (pw_or (pt_cmpR (k_in K) (pv 3) (pv 1) rfl) (pw_or1 (pt_cmpR (k_eq K hr) (pe_fn G_l_mix hr rfl (pa_name (pv 0) (pa_bin (pe_op (k_plus K) pe_int (pv 3)) (pa_const pe_int pa_nil)))) pe_int (nomark _))))) (pss_one (ps_asg pe_int (pg_sub (pv 2) (pe_op (k_plus K) (pv 3) pe_int) set_list))) pss_nil)))
      (pss_one (ps_ret (pv 2))))), ?_⟩
  walk_at "go"
  refine i_rng1v (by decide) (by decide) ?_
  refine comp_gen (n := 9) goes_range (((List.range 9).map fun (j : Nat) => number c (5 * (0 + (j : Int)))).map D.int) (by simp) (by decide) (fun i x d H1 R hi hd s1 hx hR => ?_) (fun v H1 s1 n1 => ?_)
  · subst hx
    rw [List.map_map] at hd
    have hd' := get_range hd
    subst hd'
    walk_at "go"
    refine i_number fun H2 s2 => ?_
    exact hR _ _ s2 New.int
  obtain ⟨la, rfl, la0, la1⟩ := New.ints_iff.mp n1
  rw [← lineI_zero c zs] at la1
  walk_at "go"
  refine i_rng1v (by decide) (by decide) ?_
  refine for_rng (fun i σ H2 => ∃ x, i ≤ 8 ∧ σ = [some (.int c), some (.ref za), some (.ref la), x] ∧ Same H H2 ∧ H2 la = some (.lst ((lineI c zs i).map V.int)))
    ⟨none, by decide, rfl, s1, la1⟩ ?_ ?_
  · rintro i σ H2 hi ⟨x, _, rfl, s2, e2⟩
    have i8 : i < 8 := hi
    have step : ∀ b : Bool, condB c zs i = b → (b = true → (ixN ((lineI c zs i).map V.int).length (0 + (i : Int) + 1) = some (i + 1))) := fun b hb _ => by
      rw [List.length_map, lineI_length]
      unfold ixN
      rw [if_pos (by omega), if_pos (by omega)]
      congr 1
      omega
    have yes : condB c zs i = true → ∃ x, i + 1 ≤ 8 ∧ [some (V.int c), some (.ref za), some (.ref la), some (.int (0 + (i : Int)))] = [some (.int c), some (.ref za), some (.ref la), x] ∧ Same H (upd H2 la (.lst (((lineI c zs i).map V.int).set (i + 1) (.int 0)))) ∧ (upd H2 la (.lst (((lineI c zs i).map V.int).set (i + 1) (.int 0)))) la = some (.lst ((lineI c zs (i + 1)).map V.int)) := fun hb => by
      refine ⟨_, by omega, rfl, fun d o e => ?_, ?_⟩
      · rw [upd_ne (ne_of_none e la0)]; exact s2 _ _ e
      · rw [upd_same, ← lineI_set i8 hb, List.map_set]
    walk_at "go"
    refine i_in (neg := false) (.inl (s2.seq hZ)) rfl (flat_ints zs) ?_
    cases hb1 : inV (.int (0 + (i : Int))) (zs.map V.int) with
    | true =>
      have hb : condB c zs i = true := by unfold condB; rw [hb1]; rfl
      show ∃ k, V.bl true = .bl k ∧ _
      walk_at "go"
      refine i_setL e2 (step true hb rfl) ?_
      exact yes hb
    | false =>
      show ∃ k, V.bl false = .bl k ∧ _
      walk_at "go"
      refine i_mix (by decide) ?_
      walk_at "go"
      cases hb2 : decide (mix c (60 + (0 + (i : Int))) 3 = 0) with
      | true =>
        have hb : condB c zs i = true := by unfold condB; rw [hb1, hb2]; rfl
        walk_at "go"
        refine i_setL e2 (step true hb rfl) ?_
        exact yes hb
      | false =>
        have hb : condB c zs i = false := by unfold condB; rw [hb1, hb2]; rfl
        walk_at "go"
        exact ⟨_, by omega, rfl, s2, by rw [← lineI_skip hb]; exact e2⟩
  · rintro σ H2 ⟨x, _, rfl, s2, e2⟩
    walk_at "go"
    refine q _ _ s2 (New.ints_iff.mpr ⟨la, rfl, la0, ?_⟩)
    rw [← lineI_all]
    exact e2
def sp_l_deed_by (K : PySem.W.Frag) : Sp := fun vs H Q _ => ∃ c count : Int, vs = [.int c, .int count] ∧ 0 ≤ count ∧ ∀ v H', Same H H' → New H H' (deedD c count) v → Q v H'
theorem fn_l_deed_by {f : Addr} {fd : FuncData} (B : Bl K mg) {C : Nat → Addr} (Z : Zt K mg C) (G_l_line_by : Fn P w K mg base "_law_line_by" ["cell", "zero"] 3 (sp_l_line_by K)) (G_l_mix : Fn P w K mg base "_law_mix" ["cell", "k", "many"] 1 (sp_l_mix K)) (G_l_number : Fn P w K mg base "_law_number" ["cell", "k"] 2 (sp_l_number K)) (F : Fun K "_law_deed_by" "_law_deed_by" s_l_deed_by f fd) (m : mg "_law_deed_by" = some (.ref f)) : Fn P w K mg base "_law_deed_by" ["cell", "count"] 4 (sp_l_deed_by K) := by
  refine Fn.of (k := 3) F sc_l_deed_by m (fun _ _ _ _ _ _ us hl => match us, hl with | [_, _], _ => rfl) (fun vs H Q E h => ?_) (fun cdv A outer s H vs Q E hr h => ?_)
  · first
    | (obtain ⟨rfl, _⟩ := h; rfl)
    | (obtain ⟨_, rfl, _⟩ := h; rfl)
    | (obtain ⟨_, _, rfl, _⟩ := h; rfl)
    | (obtain ⟨_, _, _, rfl, _⟩ := h; rfl)
    | (obtain ⟨_, _, _, _, rfl, _⟩ := h; rfl)
    | (obtain ⟨_, _, _, _, _, rfl, _⟩ := h; rfl)
    | (obtain ⟨_, _, _, _, _, _, rfl, _⟩ := h; rfl)
    | (obtain ⟨_, _, _, _, _, _, _, rfl, _⟩ := h; rfl)
    | (obtain ⟨_, _, _, _, _, _, _, _, rfl, _⟩ := h; rfl)
    | (obtain ⟨_, _, _, _, _, _, _, _, _, rfl, _⟩ := h; rfl)
    | (obtain ⟨_, _, _, _, _, _, _, _, _, _, rfl, _⟩ := h; rfl)
    | (obtain ⟨_, _, _, _, _, _, _, _, _, _, _, rfl, _⟩ := h; rfl)
    | (obtain ⟨_, _, _, _, _, _, _, _, _, _, _, _, rfl, _⟩ := h; rfl)
    | (obtain ⟨_, _, _, _, _, _, _, _, _, _, _, _, _, rfl, _⟩ := h; rfl)
    | (obtain ⟨_, _, _, _, _, _, _, _, _, _, _, _, _, _, rfl, _⟩ := h; rfl)
    | (obtain ⟨_, _, _, _, _, _, _, _, _, _, _, _, _, _, _, rfl, _⟩ := h; rfl)
    | (obtain ⟨_, _, _, _, _, _, _, _, _, _, _, _, _, _, _, _, rfl, _⟩ := h; rfl)
  obtain ⟨c, count, rfl, hc, q⟩ := h
  refine ⟨_, (pss_cons (ps_set (i := 2) sc_l_deed_by.nd rfl (Or.inl rfl) (pe_fn G_l_line_by hr rfl (pa_bin (pe_op op_fdiv (pv 0) pe_int) (pa_lst (pe_lst (pa_const pe_int (pa_const pe_int pa_nil))) pa_nil))))
      (pss_cons (ps_set (i := 3) sc_l_deed_by.nd rfl (Or.inl rfl) (pe_fn G_l_mix hr rfl (pa_name (pv 0) (pa_const pe_int (pa_const pe_int pa_nil)))))
      (pss_cons (ps_set (i := 4) sc_l_deed_by.nd rfl (Or.inl rfl) (pe_fn G_l_mix hr rfl (pa_name (pv 0) (pa_const pe_int (pa_const pe_int pa_nil)))))
      (pss_cons (ps_if (pt_cmpR (k_eq K hr) (pv 4) pe_int (nomark _)) (pss_one (ps_ret (pe_tup (pa_const pe_str (pa_name (pv 3) (pa_name (pv 2) pa_nil)))))) pss_nil)
      (pss_cons (ps_if (pt_cmpR (k_eq K hr) (pv 4) pe_int (nomark _)) (pss_one (ps_ret (pe_tup (pa_const pe_str (pa_name (pv 3) (pa_name (pv 2) (pa_sub (pe_ix (k_ix K) (pe_lst (pa_const pe_int (pa_const pe_int (pa_bin (pe_op (k_plus K) pe_int (pe_fn G_l_mix hr rfl (pa_name (pv 0) (pa_const pe_int (pa_const pe_int pa_nil))))) (pa_const pe_int pa_nil))))) (pe_fn G_l_mix hr rfl (pa_name (pv 0) (pa_const pe_int (pa_const pe_int pa_nil)))) (fun _ _ => rfl)) pa_nil))))))) pss_nil)
      (pss_cons (ps_if (pt_cmpR (k_eq K hr) (pv 4) pe_int (nomark _)) (pss_cons (ps_set (i := 5) sc_l_deed_by.nd rfl (Or.inl rfl) (pe_fn G_l_number hr rfl (pa_bin (pe_op op_fdiv (pv 0) pe_int) (pa_const pe_int pa_nil))))
      (pss_one (ps_ret (pe_tup (pa_const pe_str (pa_name (pv 3) (pa_name (pv 5) (pa_call (pe_callB (c_max rfl) rfl B.max L2.boot_max (pa_name (pv 5) (pa_call (pe_fn G_l_number hr rfl (pa_bin (pe_op op_fdiv (pv 0) pe_int) (pa_const pe_int pa_nil))) pa_nil))) pa_nil)))))))) pss_nil)
      (pss_cons (ps_if (pt_cmpR (k_eq K hr) (pv 4) pe_int (nomark _)) (pss_one (ps_ret (pe_tup (pa_const pe_str (pa_name (pv 2) (pa_call (pe_fn G_l_mix hr rfl (pa_name (pv 0) (pa_const pe_int (pa_bin (pe_op (k_plus K) (pv 1) pe_int) pa_nil)))) pa_nil)))))) pss_nil)
      (pss_cons (ps_if (pt_cmpR (k_eq K hr) (pv 4) pe_int (nomark _)) (pss_one (ps_ret (pe_tup (pa_const pe_str (pa_name (pv 2) pa_nil))))) pss_nil)
      (pss_cons (ps_set (i := 6) sc_l_deed_by.nd rfl (Or.inl rfl) (pe_tup (pa_call (pe_fn G_l_mix hr rfl (pa_name (pv 0) (pa_const pe_int (pa_const pe_int pa_nil)))) (pa_call (pe_fn G_l_mix hr rfl (pa_name (pv 0) (pa_const pe_int (pa_const pe_int pa_nil)))) pa_nil))))
      (pss_one (ps_ret (pe_tup (pa_const pe_str (pa_call (pe_fn G_l_mix hr rfl (pa_name (pv 0) (pa_const pe_int (pa_const pe_int pa_nil)))) (pa_name (pv 6) (pa_tup (pe_tup (pa_name (pv 3) (pa_bin (pe_op op_mod (pe_op (k_plus K) (pe_op (k_plus K) (pv 3) pe_int) (pe_fn G_l_mix hr rfl (pa_name (pv 0) (pa_const pe_int (pa_const pe_int pa_nil))))) pe_int) pa_nil))) pa_nil)))))))))))))))), ?_⟩
  have k0 := mix_nonneg (c := c) (k := 6) (m := 4) (by decide)
  have k1 := mix_lt (c := c) (k := 6) (m := 4) (by decide)
  unfold deedD at q
  walk_at "go"
  refine ⟨by decide, fun p hp => ?_⟩
  walk_at "go"
  refine ⟨_, p, [6, 7], rfl, SqL.of upd_same, fun v H1 s1 n1 => ?_⟩
  obtain ⟨la, rfl, la0, la1⟩ := New.ints_iff.mp n1
  have s0 := (same_upd hp (.lst [.int 6, .int 7])).trans s1
  have la2 : H la = none := (same_upd hp _).free la0
  walk_at "go"
  refine i_mix (by decide) ?_
  walk_at "go"
  refine i_mix (by decide) ?_
  walk_at "go"
  refine ite2 (fun e => ?_) (fun e => ?_)
  · have e' : mix c 4 6 = 0 := of_decide_eq_true e
    rw [if_pos e'] at q
    walk_at "go"
    refine ⟨by show 3 ≤ sizeLine; decide, fun t ht => ?_⟩
    refine q _ _ (s0.trans (same_upd ht _)) (New.tup (fp := [la]) (RepFs.cstr (RepFs.cint (RepFs.cany (f := [la]) (RepF.line (same_upd ht _ _ _ la1)) RepFs.nil))) (by simp) (fun b m => by rw [List.mem_singleton.mp m]; exact la2) upd_same)
  have e0 : ¬ mix c 4 6 = 0 := of_decide_eq_false (Bool.eq_false_iff.mpr e)
  rw [if_neg e0] at q
  walk_at "go"
  refine ite2 (fun e => ?_) (fun e => ?_)
  · have e' : mix c 4 6 = 1 := of_decide_eq_true e
    rw [if_pos e'] at q
    walk_at "go"
    refine i_mix (by decide) ?_
    walk_at "go"
    refine ⟨by show 4 ≤ sizeLine; decide, fun m hm => ?_⟩
    have s2 := same_upd hm (.lst [.int 1, .int 1000, .int (1 + mix c 5 1000), .int 2])
    walk_at "go"
    refine i_mix (by decide) ?_
    refine i_ixL (SqL.of upd_same) (v := .int (byOf c)) ?_ ?_
    · unfold byOf
      have c4 : mix c 6 4 = 0 ∨ mix c 6 4 = 1 ∨ mix c 6 4 = 2 ∨ mix c 6 4 = 3 := by omega
      rcases c4 with z | z | z | z <;> rw [z] <;> rfl
    walk_at "go"
    refine ⟨by show 4 ≤ sizeLine; decide, fun t ht => ?_⟩
    refine q _ _ (s0.trans (s2.trans (same_upd ht _))) (New.tup (fp := [la]) (RepFs.cstr (RepFs.cint (RepFs.cany (f := [la]) (RepF.line (same_upd ht _ _ _ (s2 _ _ la1))) (RepFs.cint RepFs.nil)))) (by simp) (fun b m => by rw [List.mem_singleton.mp m]; exact la2) upd_same)
  have e1 : ¬ mix c 4 6 = 1 := of_decide_eq_false (Bool.eq_false_iff.mpr e)
  rw [if_neg e1] at q
  walk_at "go"
  refine ite2 (fun e => ?_) (fun e => ?_)
  · have e' : mix c 4 6 = 2 := of_decide_eq_true e
    rw [if_pos e'] at q
    walk_at "go"
    refine i_number fun H2 s2 => ?_
    walk_at "go"
    refine i_number fun H3 s3 => ?_
    walk_at "go"
    refine i_max ?_
    walk_at "go"
    refine ⟨by show 4 ≤ sizeLine; decide, fun t ht => ?_⟩
    refine q _ _ (s0.trans (s2.trans (s3.trans (same_upd ht _)))) (New.tup (fp := []) (RepFs.cstr (RepFs.cint (RepFs.cint (RepFs.cint RepFs.nil)))) (by simp) (fun b m => by cases m) upd_same)
  have e2 : ¬ mix c 4 6 = 2 := of_decide_eq_false (Bool.eq_false_iff.mpr e)
  rw [if_neg e2] at q
  walk_at "go"
  refine ite2 (fun e => ?_) (fun e => ?_)
  · have e' : mix c 4 6 = 3 := of_decide_eq_true e
    rw [if_pos e'] at q
    walk_at "go"
    refine i_mix (by omega) ?_
    walk_at "go"
    refine ⟨by show 3 ≤ sizeLine; decide, fun t ht => ?_⟩
    refine q _ _ (s0.trans (same_upd ht _)) (New.tup (fp := [la]) (RepFs.cstr (RepFs.cany (f := [la]) (RepF.line (same_upd ht _ _ _ la1)) (RepFs.cint RepFs.nil))) (by simp) (fun b m => by rw [List.mem_singleton.mp m]; exact la2) upd_same)
  have e3 : ¬ mix c 4 6 = 3 := of_decide_eq_false (Bool.eq_false_iff.mpr e)
  rw [if_neg e3] at q
  walk_at "go"
  refine ite2 (fun e => ?_) (fun e => ?_)
  · have e' : mix c 4 6 = 4 := of_decide_eq_true e
    rw [if_pos e'] at q
    walk_at "go"
    refine ⟨by show 2 ≤ sizeLine; decide, fun t ht => ?_⟩
    refine q _ _ (s0.trans (same_upd ht _)) (New.tup (fp := [la]) (RepFs.cstr (RepFs.cany (f := [la]) (RepF.line (same_upd ht _ _ _ la1)) RepFs.nil)) (by simp) (fun b m => by rw [List.mem_singleton.mp m]; exact la2) upd_same)
  have e4 : ¬ mix c 4 6 = 4 := of_decide_eq_false (Bool.eq_false_iff.mpr e)
  rw [if_neg e4] at q
  walk_at "go"
  refine i_mix (by decide) ?_
  walk_at "go"
  refine i_mix (by decide) ?_
  walk_at "go"
  refine ⟨by show 2 ≤ sizeLine; decide, fun g hg => ?_⟩
  have s2 := same_upd hg (.tup [.int (mix c 10 4), .int (mix c 11 4)])
  walk_at "go"
  refine i_mix (by decide) ?_
  walk_at "go"
  refine i_mix (by decide) ?_
  walk_at "go"
  refine ⟨by show 2 ≤ sizeLine; decide, fun u hu' => ?_⟩
  have s3 := same_upd hu' (.tup [.int (mix c 3 4), .int ((mix c 3 4 + 1 + mix c 13 3) % 4)])
  refine ⟨by show 4 ≤ sizeLine; decide, fun t ht => ?_⟩
  have s4 := same_upd ht (.tup [.str "call", .int (mix c 12 100), .ref g, .ref u])
  refine q _ _ (s0.trans (s2.trans (s3.trans s4))) (New.tup (fp := []) (RepFs.cstr (RepFs.cint (RepFs.cany (f := []) (RepF.pair (s4 _ _ (s3 _ _ upd_same))) (RepFs.cany (f := []) (RepF.pair (s4 _ _ upd_same)) RepFs.nil)))) (by simp) (fun b m => by cases m) upd_same)
def sp_l_lines_by (K : PySem.W.Frag) : Sp := fun vs H Q _ => ∃ (c : Int) (za : Addr) (zs : List Int), vs = [.int c, .ref za] ∧ SqL K H za (zs.map V.int) ∧ ∀ v H', Same H H' → New H H' (linesV (linesD c zs)) v → Q v H'
theorem fn_l_lines_by {f : Addr} {fd : FuncData} (B : Bl K mg) {C : Nat → Addr} (Z : Zt K mg C) (G_l_line_by : Fn P w K mg base "_law_line_by" ["cell", "zero"] 3 (sp_l_line_by K)) (G_l_mix : Fn P w K mg base "_law_mix" ["cell", "k", "many"] 1 (sp_l_mix K)) (F : Fun K "_law_lines_by" "_law_lines_by" s_l_lines_by f fd) (m : mg "_law_lines_by" = some (.ref f)) : Fn P w K mg base "_law_lines_by" ["cell", "zero"] 4 (sp_l_lines_by K) := by
  refine Fn.of (k := 3) F sc_l_lines_by m (fun _ _ _ _ _ _ us hl => match us, hl with | [_, _], _ => rfl) (fun vs H Q E h => ?_) (fun cdv A outer s H vs Q E hr h => ?_)
  · first
    | (obtain ⟨rfl, _⟩ := h; rfl)
    | (obtain ⟨_, rfl, _⟩ := h; rfl)
    | (obtain ⟨_, _, rfl, _⟩ := h; rfl)
    | (obtain ⟨_, _, _, rfl, _⟩ := h; rfl)
    | (obtain ⟨_, _, _, _, rfl, _⟩ := h; rfl)
    | (obtain ⟨_, _, _, _, _, rfl, _⟩ := h; rfl)
    | (obtain ⟨_, _, _, _, _, _, rfl, _⟩ := h; rfl)
    | (obtain ⟨_, _, _, _, _, _, _, rfl, _⟩ := h; rfl)
    | (obtain ⟨_, _, _, _, _, _, _, _, rfl, _⟩ := h; rfl)
    | (obtain ⟨_, _, _, _, _, _, _, _, _, rfl, _⟩ := h; rfl)
    | (obtain ⟨_, _, _, _, _, _, _, _, _, _, rfl, _⟩ := h; rfl)
    | (obtain ⟨_, _, _, _, _, _, _, _, _, _, _, rfl, _⟩ := h; rfl)
    | (obtain ⟨_, _, _, _, _, _, _, _, _, _, _, _, rfl, _⟩ := h; rfl)
    | (obtain ⟨_, _, _, _, _, _, _, _, _, _, _, _, _, rfl, _⟩ := h; rfl)
    | (obtain ⟨_, _, _, _, _, _, _, _, _, _, _, _, _, _, rfl, _⟩ := h; rfl)
    | (obtain ⟨_, _, _, _, _, _, _, _, _, _, _, _, _, _, _, rfl, _⟩ := h; rfl)
    | (obtain ⟨_, _, _, _, _, _, _, _, _, _, _, _, _, _, _, _, rfl, _⟩ := h; rfl)
  obtain ⟨c, za, zs, rfl, hZ, q⟩ := h
  refine ⟨_, (pss_one (ps_ret (pe_comp rfl (CompOk.mk' (sc0 := defScope s_l_lines_by) (N := ["cell", "zero"]) (N' := ["cell", "zero", "k"]) (ms := [false, false, true]) rfl (by decide +kernel) (by decide +kernel) (by decide +kernel) rfl (by decide +kernel)) (pi_range1 rfl B.range (pa_call (pe_fn G_l_mix hr rfl (pa_name (pv 0) (pa_const pe_int (pa_const pe_int pa_nil)))) pa_nil)) (fun _ _ _ _ _ => (pg_name (i := 2) (show List.Nodup (["cell", "zero", "k"] : List Str) by decide +kernel) rfl (Or.inl rfl))) (fun _ _ _ _ _ => pifs_nil) (fun _ _ _ _ _ => (pe_fn G_l_line_by hr rfl (pa_bin (pe_op (k_plus K) (pv 0) (pe_op op_times pe_int (pv 2))) (pa_name (pv 1) pa_nil))))))), ?_⟩
  have h1 := mix_nonneg (c := c) (k := 20) (m := 3) (by decide)
  have h2 := mix_lt (c := c) (k := 20) (m := 3) (by decide)
  walk_at "go"
  refine i_mix (by decide) ?_
  walk_at "go"
  refine i_rng1v (by omega) (by omega) ?_
  refine comp_gen goes_range ((linesD c zs).map nums) (by simp [linesD]) (small_le (by omega)) (fun i x d H1 R hi hd s1 hx hR => ?_) (fun v H1 s1 n1 => ?_)
  · subst hx
    unfold linesD at hd
    rw [List.map_map] at hd
    have hd' := get_range hd
    subst hd'
    walk_at "go"
    refine ⟨_, za, zs, rfl, s1.seq hZ, fun v H2 s2 n2 => ?_⟩
    exact hR _ _ s2 n2
  exact q _ _ s1 n1
def sp_l_parts_by (K : PySem.W.Frag) : Sp := fun vs H Q _ => ∃ (a : Addr) (start count : Int) (ns : List Int), vs = [.ref a, .int start, .int count] ∧ SqL K H a (ns.map V.int) ∧ 0 ≤ start ∧ 0 ≤ count ∧ count ≤ 8 ∧ ∀ v H', Same H H' → New H H' (partsD ns start count) v → Q v H'
theorem fn_l_parts_by {f : Addr} {fd : FuncData} (B : Bl K mg) {C : Nat → Addr} (Z : Zt K mg C) (G_l_lines_by : Fn P w K mg base "_law_lines_by" ["cell", "zero"] 4 (sp_l_lines_by K)) (G_l_cell_at : Fn P w K mg base "_law_cell_at" ["script", "k"] 1 (sp_l_cell_at K)) (G_l_deed_by : Fn P w K mg base "_law_deed_by" ["cell", "count"] 4 (sp_l_deed_by K)) (F : Fun K "_law_parts_by" "_law_parts_by" s_l_parts_by f fd) (m : mg "_law_parts_by" = some (.ref f)) : Fn P w K mg base "_law_parts_by" ["script", "start", "count"] 5 (sp_l_parts_by K) := by
  refine Fn.of (k := 4) F sc_l_parts_by m (fun _ _ _ _ _ _ us hl => match us, hl with | [_, _, _], _ => rfl) (fun vs H Q E h => ?_) (fun cdv A outer s H vs Q E hr h => ?_)
  · first
    | (obtain ⟨rfl, _⟩ := h; rfl)
    | (obtain ⟨_, rfl, _⟩ := h; rfl)
    | (obtain ⟨_, _, rfl, _⟩ := h; rfl)
    | (obtain ⟨_, _, _, rfl, _⟩ := h; rfl)
    | (obtain ⟨_, _, _, _, rfl, _⟩ := h; rfl)
    | (obtain ⟨_, _, _, _, _, rfl, _⟩ := h; rfl)
    | (obtain ⟨_, _, _, _, _, _, rfl, _⟩ := h; rfl)
    | (obtain ⟨_, _, _, _, _, _, _, rfl, _⟩ := h; rfl)
    | (obtain ⟨_, _, _, _, _, _, _, _, rfl, _⟩ := h; rfl)
    | (obtain ⟨_, _, _, _, _, _, _, _, _, rfl, _⟩ := h; rfl)
    | (obtain ⟨_, _, _, _, _, _, _, _, _, _, rfl, _⟩ := h; rfl)
    | (obtain ⟨_, _, _, _, _, _, _, _, _, _, _, rfl, _⟩ := h; rfl)
    | (obtain ⟨_, _, _, _, _, _, _, _, _, _, _, _, rfl, _⟩ := h; rfl)
    | (obtain ⟨_, _, _, _, _, _, _, _, _, _, _, _, _, rfl, _⟩ := h; rfl)
    | (obtain ⟨_, _, _, _, _, _, _, _, _, _, _, _, _, _, rfl, _⟩ := h; rfl)
    | (obtain ⟨_, _, _, _, _, _, _, _, _, _, _, _, _, _, _, rfl, _⟩ := h; rfl)
    | (obtain ⟨_, _, _, _, _, _, _, _, _, _, _, _, _, _, _, _, rfl, _⟩ := h; rfl)
  obtain ⟨a, start, count, ns, rfl, hS, hst, hc0, hc8, q⟩ := h
  refine ⟨_, (pss_cons (ps_set (i := 3) sc_l_parts_by.nd rfl (Or.inl rfl) (pe_fn G_l_lines_by hr rfl (pa_call (pe_fn G_l_cell_at hr rfl (pa_name (pv 0) (pa_name (pv 1) pa_nil))) (pa_lst (pe_lst (pa_const pe_int (pa_const pe_int (pa_const pe_int (pa_const pe_int (pa_const pe_int (pa_const pe_int pa_nil))))))) pa_nil))))
      (pss_cons (ps_set (i := 4) sc_l_parts_by.nd rfl (Or.inl rfl) (pe_fn G_l_lines_by hr rfl (pa_call (pe_fn G_l_cell_at hr rfl (pa_name (pv 0) (pa_bin (pe_op (k_plus K) (pv 1) pe_int) pa_nil))) (pa_lst (pe_lst (pa_const pe_int (pa_const pe_int (pa_const pe_int (pa_const pe_int pa_nil))))) pa_nil))))
      (pss_cons (ps_setComp (i := 5) sc_l_parts_by.nd rfl rfl rfl (CompOk.mk' (sc0 := defScope s_l_parts_by) (N := ["script", "start", "count", "needs", "leaves", "deeds", "notes"]) (N' := ["script", "start", "count", "needs", "leaves", "deeds", "notes", "k"]) (ms := [false, false, false, false, false, false, false, true]) rfl (by decide +kernel) (by decide +kernel) (by decide +kernel) rfl (by decide +kernel)) (pi_range1 rfl B.range (pa_name (pv 2) pa_nil)) (fun _ _ _ _ _ => (pg_name (i := 7) (show List.Nodup (["script", "start", "count", "needs", "leaves", "deeds", "notes", "k"] : List Str) by decide +kernel) rfl (Or.inl rfl))) (fun _ _ _ _ _ => pifs_nil) (fun _ _ _ _ _ => (pe_fn G_l_deed_by hr rfl (pa_call (pe_fn G_l_cell_at hr rfl (pa_name (pv 0) (pa_bin (pe_op (k_plus K) (pe_op (k_plus K) (pv 1) pe_int) (pv 7)) pa_nil))) (pa_name (pv 2) pa_nil)))))
      (pss_cons (ps_setComp (i := 6) sc_l_parts_by.nd rfl rfl rfl (CompOk.mk' (sc0 := defScope s_l_parts_by) (N := ["script", "start", "count", "needs", "leaves", "deeds", "notes"]) (N' := ["script", "start", "count", "needs", "leaves", "deeds", "notes", "k"]) (ms := [false, false, false, false, false, false, false, true]) rfl (by decide +kernel) (by decide +kernel) (by decide +kernel) rfl (by decide +kernel)) (pi_range1 rfl B.range (pa_name (pv 2) pa_nil)) (fun _ _ _ _ _ => (pg_name (i := 7) (show List.Nodup (["script", "start", "count", "needs", "leaves", "deeds", "notes", "k"] : List Str) by decide +kernel) rfl (Or.inl rfl))) (fun _ _ _ _ _ => pifs_nil) (fun _ _ _ _ _ => (pe_fn G_l_lines_by hr rfl (pa_bin (pe_op op_fdiv (pe_fn G_l_cell_at hr rfl (pa_name (pv 0) (pa_bin (pe_op (k_plus K) (pe_op (k_plus K) (pv 1) pe_int) (pv 7)) pa_nil))) pe_int) (pa_lst (pe_lst (pa_const pe_int (pa_const pe_int pa_nil))) pa_nil)))))
      (pss_one (ps_ret (pe_lst (pa_name (pv 3) (pa_name (pv 4) (pa_name (pv 5) (pa_name (pv 6) pa_nil))))))))))), ?_⟩
  walk_at "go"
  refine i_cell hS hst ?_
  walk_at "go"
  refine ⟨by show 6 ≤ sizeLine; decide, fun p hp => ?_⟩
  have r1 := same_upd hp (.lst [.int 0, .int 1, .int 2, .int 3, .int 6, .int 7])
  walk_at "go"
  refine ⟨_, p, [0, 1, 2, 3, 6, 7], rfl, SqL.of upd_same, fun v1 H1 s1 n1 => ?_⟩
  have t1 := r1.trans s1
  walk_at "go"
  refine i_cell (t1.seq hS) (by omega) ?_
  walk_at "go"
  refine ⟨by show 4 ≤ sizeLine; decide, fun p2 hp2 => ?_⟩
  have r2 := same_upd hp2 (.lst [.int 0, .int 1, .int 2, .int 3])
  walk_at "go"
  refine ⟨_, p2, [0, 1, 2, 3], rfl, SqL.of upd_same, fun v2 H2 s2 n2 => ?_⟩
  have t2 := t1.trans (r2.trans s2)
  walk_at "go"
  refine i_rng1v (by omega) (by omega) ?_
  refine comp_gen goes_range (deedsL ns start count) (by simp [deedsL]) (small_le (by omega)) (fun i x d H3 R hi hd s3 hx hR => ?_) (fun v3 H3 s3 n3 => ?_)
  · subst hx
    unfold deedsL at hd
    have hd' := get_range hd
    subst hd'
    walk_at "go"
    refine i_cell ((t2.trans s3).seq hS) (by omega) ?_
    walk_at "go"
    refine ⟨_, _, rfl, hc0, fun v H4 s4 n4 => ?_⟩
    exact hR _ _ s4 n4
  have t3 := t2.trans s3
  walk_at "go"
  refine i_rng1v (by omega) (by omega) ?_
  refine comp_gen goes_range ((notesL ns start count).map linesV) (by simp [notesL]) (small_le (by omega)) (fun i x d H4 R hi hd s4 hx hR => ?_) (fun v4 H4 s4 n4 => ?_)
  · subst hx
    unfold notesL at hd
    rw [List.map_map] at hd
    have hd' := get_range hd
    subst hd'
    walk_at "go"
    refine i_cell ((t3.trans s4).seq hS) (by omega) ?_
    walk_at "go"
    refine ⟨by show 2 ≤ sizeLine; decide, fun p3 hp3 => ?_⟩
    have r3 := same_upd hp3 (.lst [.int 6, .int 7])
    walk_at "go"
    refine ⟨_, p3, [6, 7], rfl, SqL.of upd_same, fun v5 H5 s5 n5 => ?_⟩
    exact hR _ _ (r3.trans s5) (n5.back r3)
  walk_at "go"
  refine ⟨by show 4 ≤ sizeLine; decide, fun t ht => ?_⟩
  have s5 := same_upd ht (.lst [v1, v2, v3, v4])
  refine q _ _ ((t3.trans s4).trans s5) ?_
  have w1 : News H H1 [linesV (needsL ns start)] [v1] := News.nil.snoc (H1 := H) (Same.refl H) t1 (n1.back r1)
  have w2 := (w1.same r2).snoc (t1.trans r2) s2 n2
  have w3 := w2.snoc t2 s3 n3
  have w4 := w3.snoc t3 s4 n4
  exact w4.lst (t3.trans s4) ht
def sp_l_hurt_line (K : PySem.W.Frag) : Sp := fun vs H Q _ => ∃ (a z : Addr) (l zero : List Int) (c : Int), vs = [.ref a, .ref z, .int c] ∧ SqL K H a (l.map V.int) ∧ SqL K H z (zero.map V.int) ∧ l.length = 9 ∧ zero.length ≤ 8 ∧ (∀ z ∈ zero, 0 ≤ z ∧ z < 8) ∧ ∀ v H', Same H H' → New H H' (nums (hurtLine l zero c)) v → Q v H'
theorem at_two {i a b : Int} (h0 : 0 ≤ i) (h1 : i < 2) : atI [V.int a, .int b] i = some (.int (two i a b)) := by
  have : i = 0 ∨ i = 1 := by omega
  rcases this with z | z <;> subst z <;> rfl
theorem at_three {i a b c : Int} (h0 : 0 ≤ i) (h1 : i < 3) : atI [V.int a, .int b, .int c] i = some (.int (three i a b c)) := by
  have : i = 0 ∨ i = 1 ∨ i = 2 := by omega
  rcases this with z | z | z <;> subst z <;> rfl
theorem fn_l_hurt_line {f : Addr} {fd : FuncData} (B : Bl K mg) {C : Nat → Addr} (Z : Zt K mg C)  (F : Fun K "_law_hurt_line" "_law_hurt_line" s_l_hurt_line f fd) (m : mg "_law_hurt_line" = some (.ref f)) : Fn P w K mg base "_law_hurt_line" ["line", "zero", "cell"] 1 (sp_l_hurt_line K) := by
  refine Fn.of (k := 0) F sc_l_hurt_line m (fun _ _ _ _ _ _ us hl => match us, hl with | [_, _, _], _ => rfl) (fun vs H Q E h => ?_) (fun cdv A outer s H vs Q E hr h => ?_)
  · first
    | (obtain ⟨rfl, _⟩ := h; rfl)
    | (obtain ⟨_, rfl, _⟩ := h; rfl)
    | (obtain ⟨_, _, rfl, _⟩ := h; rfl)
    | (obtain ⟨_, _, _, rfl, _⟩ := h; rfl)
    | (obtain ⟨_, _, _, _, rfl, _⟩ := h; rfl)
    | (obtain ⟨_, _, _, _, _, rfl, _⟩ := h; rfl)
    | (obtain ⟨_, _, _, _, _, _, rfl, _⟩ := h; rfl)
    | (obtain ⟨_, _, _, _, _, _, _, rfl, _⟩ := h; rfl)
    | (obtain ⟨_, _, _, _, _, _, _, _, rfl, _⟩ := h; rfl)
    | (obtain ⟨_, _, _, _, _, _, _, _, _, rfl, _⟩ := h; rfl)
    | (obtain ⟨_, _, _, _, _, _, _, _, _, _, rfl, _⟩ := h; rfl)
    | (obtain ⟨_, _, _, _, _, _, _, _, _, _, _, rfl, _⟩ := h; rfl)
    | (obtain ⟨_, _, _, _, _, _, _, _, _, _, _, _, rfl, _⟩ := h; rfl)
    | (obtain ⟨_, _, _, _, _, _, _, _, _, _, _, _, _, rfl, _⟩ := h; rfl)
    | (obtain ⟨_, _, _, _, _, _, _, _, _, _, _, _, _, _, rfl, _⟩ := h; rfl)
    | (obtain ⟨_, _, _, _, _, _, _, _, _, _, _, _, _, _, _, rfl, _⟩ := h; rfl)
    | (obtain ⟨_, _, _, _, _, _, _, _, _, _, _, _, _, _, _, _, rfl, _⟩ := h; rfl)
  obtain ⟨a, z, l, zero, c, rfl, hA, hZ, h9, hz8, hz, q⟩ := h
  refine ⟨_, (pss_cons (ps_set (i := 3) sc_l_hurt_line.nd rfl (Or.inl rfl) (pe_callTy (k_list K) rfl B.list L2.boot_list (pa_name (pv 0) pa_nil)))
      (pss_cons (ps_if (PW.pt (pw_or (pt_cmpR (k_eq K hr) (pe_op op_mod (pv 2) pe_int) pe_int (nomark _)) (pw_or1 (pt_cmpR (k_eq K hr) (pe_callB (k_len K) rfl B.len L2.boot_len (pa_name (pv 1) pa_nil)) pe_int (nomark _))))) (pss_cons (ps_set (i := 4) sc_l_hurt_line.nd rfl (Or.inl rfl) (pe_ifExp (pt_cmpR (k_eq K hr) (pe_op op_mod (pe_op op_fdiv (pv 2) pe_int) pe_int) pe_int (nomark _)) pe_int pe_int))
      (pss_one (ps_asg (pe_op op_times (pe_op (k_plus K) (pe_op op_pow pe_int pe_int) pe_int) (pe_ix (k_ix K) (pe_lst (pa_const pe_int (pa_un (pe_un un_neg pe_int) pa_nil))) (pe_op op_mod (pe_op op_fdiv (pv 2) pe_int) pe_int) (fun _ _ => rfl))) (pg_sub (pv 3) (pv 4) set_list)))) (pss_one (ps_asg (pe_ix (k_ix K) (pe_lst (pa_const pe_int (pa_un (pe_un un_neg pe_int) (pa_bin (pe_op op_pow pe_int pe_int) pa_nil)))) (pe_op op_mod (pe_op op_fdiv (pv 2) pe_int) pe_int) (fun _ _ => rfl)) (pg_sub (pv 3) (pe_op (k_plus K) pe_int (pe_ix (k_ix K) (pv 1) (pe_op op_mod (pe_op op_fdiv (pv 2) pe_int) (pe_callB (k_len K) rfl B.len L2.boot_len (pa_name (pv 1) pa_nil))) (fun _ _ => rfl))) set_list))))
      (pss_one (ps_ret (pv 3))))), ?_⟩
  have m2 : 0 ≤ c / 4 % 2 ∧ c / 4 % 2 < 2 := ⟨by omega, by omega⟩
  have m3 : 0 ≤ c / 20 % 3 ∧ c / 20 % 3 < 3 := ⟨by omega, by omega⟩
  walk_at "go"
  refine i_listof (.inl hA) fun p hp => ?_
  have s0 := same_upd hp (.lst (l.map V.int))
  have fin : ∀ (p2 : Addr) (L2 : HO) (j : Nat) (w : Int), (upd H p (.lst (l.map V.int))) p2 = none → Same H (upd (upd (upd H p (.lst (l.map V.int))) p2 L2) p (.lst ((l.map V.int).set j (.int w)))) ∧ New H (upd (upd (upd H p (.lst (l.map V.int))) p2 L2) p (.lst ((l.map V.int).set j (.int w)))) (nums (l.set j w)) (.ref p) := fun p2 L2 j w hp2 => by
    refine ⟨fun b o e => ?_, New.ints_iff.mpr ⟨p, rfl, hp, by rw [upd_same, List.map_set]⟩⟩
    rw [upd_ne (ne_of_none e hp)]
    exact (s0.trans (same_upd hp2 L2)) _ _ e
  have got : ∀ (p2 : Addr) (L2 : HO), (upd H p (.lst (l.map V.int))) p2 = none → (upd (upd H p (.lst (l.map V.int))) p2 L2) p = some (.lst (l.map V.int)) := fun p2 L2 hp2 => same_upd hp2 L2 _ _ upd_same
  unfold hurtLine at q
  walk_at "go"
  cases hb : decide (c % 2 = 0) with
  | true =>
    rw [if_pos (.inl (of_decide_eq_true hb))] at q
    walk_at "go"
    cases hc : decide (c / 2 % 2 = 0) with
    | true =>
      rw [if_pos (of_decide_eq_true hc)] at q
      walk_at "go"
      refine ⟨by show 2 ≤ sizeLine; decide, fun p2 hp2 => ?_⟩
      walk_at "go"
      refine i_ixL (SqL.of upd_same) (at_two m2.1 m2.2) ?_
      walk_at "go"
      refine i_setL (got p2 _ hp2) (j := 0) (by rw [List.length_map, h9]; rfl) ?_
      walk_at "go"
      exact q _ _ (fin p2 _ 0 _ hp2).1 (fin p2 _ 0 _ hp2).2
    | false =>
      rw [if_neg (of_decide_eq_false hc)] at q
      walk_at "go"
      refine ⟨by show 2 ≤ sizeLine; decide, fun p2 hp2 => ?_⟩
      walk_at "go"
      refine i_ixL (SqL.of upd_same) (at_two m2.1 m2.2) ?_
      walk_at "go"
      refine i_setL (got p2 _ hp2) (j := 5) (by rw [List.length_map, h9]; rfl) ?_
      walk_at "go"
      exact q _ _ (fin p2 _ 5 _ hp2).1 (fin p2 _ 5 _ hp2).2
  | false =>
    walk_at "go"
    refine i_len (.inl (s0.seq hZ)) ?_
    rw [List.length_map]
    walk_at "go"
    cases hl : decide (((zero.length : Nat) : Int) = 0) with
    | true =>
      have hl' : zero.length = 0 := by have := of_decide_eq_true hl; omega
      rw [if_pos (.inr hl')] at q
      walk_at "go"
      cases hc : decide (c / 2 % 2 = 0) with
      | true =>
        rw [if_pos (of_decide_eq_true hc)] at q
        walk_at "go"
        refine ⟨by show 2 ≤ sizeLine; decide, fun p2 hp2 => ?_⟩
        walk_at "go"
        refine i_ixL (SqL.of upd_same) (at_two m2.1 m2.2) ?_
        walk_at "go"
        refine i_setL (got p2 _ hp2) (j := 0) (by rw [List.length_map, h9]; rfl) ?_
        walk_at "go"
        exact q _ _ (fin p2 _ 0 _ hp2).1 (fin p2 _ 0 _ hp2).2
      | false =>
        rw [if_neg (of_decide_eq_false hc)] at q
        walk_at "go"
        refine ⟨by show 2 ≤ sizeLine; decide, fun p2 hp2 => ?_⟩
        walk_at "go"
        refine i_ixL (SqL.of upd_same) (at_two m2.1 m2.2) ?_
        walk_at "go"
        refine i_setL (got p2 _ hp2) (j := 5) (by rw [List.length_map, h9]; rfl) ?_
        walk_at "go"
        exact q _ _ (fin p2 _ 5 _ hp2).1 (fin p2 _ 5 _ hp2).2
    | false =>
      have hl' : ¬ zero.length = 0 := by have := of_decide_eq_false hl; omega
      rw [if_neg (fun o => o.elim (of_decide_eq_false hb) hl')] at q
      have b1 : 0 ≤ c / 2 % (zero.length : Int) := Int.emod_nonneg _ (by omega)
      have b2 : c / 2 % (zero.length : Int) < (zero.length : Int) := Int.emod_lt_of_pos _ (by omega)
      have hlt : (c / 2 % (zero.length : Int)).toNat < zero.length := by omega
      have hm : zero.getD (c / 2 % (zero.length : Int)).toNat 0 ∈ zero := by
        rw [List.getD_eq_getElem?_getD, List.getElem?_eq_getElem hlt]
        exact List.getElem_mem hlt
      obtain ⟨z0, z8⟩ := hz _ hm
      have ez : atI (zero.map V.int) (c / 2 % (zero.length : Int)) = some (.int (zero.getD (c / 2 % (zero.length : Int)).toNat 0)) := by
        have := atI_nat (xs := zero.map V.int) (j := (c / 2 % (zero.length : Int)).toNat) (v := .int (zero.getD (c / 2 % (zero.length : Int)).toNat 0)) (by rw [List.getElem?_map, List.getD_eq_getElem?_getD, List.getElem?_eq_getElem hlt]; rfl)
        rwa [show (((c / 2 % (zero.length : Int)).toNat : Nat) : Int) = c / 2 % (zero.length : Int) by omega] at this
      walk_at "go"
      refine ⟨by show 3 ≤ sizeLine; decide, fun p2 hp2 => ?_⟩
      walk_at "go"
      refine i_ixL (SqL.of upd_same) (at_three m3.1 m3.2) ?_
      walk_at "go"
      refine i_len (.inl ((s0.trans (same_upd hp2 _)).seq hZ)) ?_
      rw [List.length_map]
      walk_at "go"
      refine i_ixL ((s0.trans (same_upd hp2 _)).seq hZ) ez ?_
      walk_at "go"
      refine i_setL (got p2 _ hp2) (j := (1 + zero.getD (c / 2 % (zero.length : Int)).toNat 0).toNat) (by rw [List.length_map, h9]; unfold ixN; rw [if_pos (by omega), if_pos (by omega)]) ?_
      walk_at "go"
      exact q _ _ (fin p2 _ _ _ hp2).1 (fin p2 _ _ _ hp2).2
def sp_l_hurt_deed (K : PySem.W.Frag) : Sp := fun vs H Q _ => ∃ (v : V) (count c : Int) (d : Dd), vs = [v, .int count, .int c] ∧ DeedRep H (toD d) v ∧ line9 d ∧ ∀ v' H', Same H H' → DeedRep H' (toD (hurtDeed count c d)) v' → Q v' H'
def Parts (H : Hp) : List D → List V → Prop
  | [], [] => True
  | d :: ds, x :: xs => Part H d x ∧ Parts H ds xs
  | _, _ => False
theorem parts_len {H : Hp} : ∀ {ds : List D} {xs : List V}, Parts H ds xs → ds.length = xs.length
  | [], [], _ => rfl
  | _ :: _, _ :: _, h => by rw [List.length_cons, List.length_cons, parts_len h.2]
  | [], _ :: _, h => h.elim
  | _ :: _, [], h => h.elim
theorem parts_at {H : Hp} : ∀ {ds : List D} {xs : List V}, Parts H ds xs → ∀ (i : Nat) dd x, ds[i]? = some dd → xs[i]? = some x → Part H dd x
  | [], _, _, i, _, _, e, _ => by simp at e
  | _ :: _, [], h, _, _, _, _, _ => h.elim
  | d :: ds, x :: xs, h, 0, _, _, e1, e2 => by simp at e1 e2; subst e1; subst e2; exact h.1
  | d :: ds, x :: xs, h, i + 1, dd, y, e1, e2 => parts_at h.2 i dd y (by simpa using e1) (by simpa using e2)
theorem parts_of' {H : Hp} : ∀ {ds : List D} {xs : List V}, ds.length = xs.length → (∀ (i : Nat) dd x, ds[i]? = some dd → xs[i]? = some x → Part H dd x) → Parts H ds xs
  | [], [], _, _ => trivial
  | [], _ :: _, e, _ => by simp at e
  | _ :: _, [], e, _ => by simp at e
  | d :: ds, x :: xs, e, h => ⟨h 0 d x rfl rfl, parts_of' (by simpa using e) fun i dd y e1 e2 => h (i + 1) dd y (by simpa using e1) (by simpa using e2)⟩
theorem deed_up {H : Hp} {t : Addr} {xs : List V} {ds : List D} (h : H t = some (.tup xs)) (l : ds.length ≤ 8) (p : Parts H ds xs) : DeedRep H (.tup ds) (.ref t) := ⟨t, xs, ds, rfl, rfl, h, parts_len p, l, parts_at p⟩
theorem deed_down {H : Hp} {ds : List D} {v : V} (h : DeedRep H (.tup ds) v) : ∃ t xs, v = .ref t ∧ H t = some (.tup xs) ∧ Parts H ds xs := by
  obtain ⟨t, xs, ds', e, rfl, h1, h2, _, h3⟩ := h
  cases e
  exact ⟨t, xs, rfl, h1, parts_of' h2 h3⟩
theorem parts_cons {H : Hp} {d : D} {ds : List D} {xs : List V} (h : Parts H (d :: ds) xs) : ∃ x r, xs = x :: r ∧ Part H d x ∧ Parts H ds r := by
  cases xs with
  | nil => exact h.elim
  | cons x r => exact ⟨x, r, rfl, h.1, h.2⟩
theorem parts_nil {H : Hp} {xs : List V} (h : Parts H [] xs) : xs = [] := by
  cases xs with
  | nil => rfl
  | cons x r => exact h.elim
theorem part_str {H : Hp} {s : Str} {x : V} (h : Part H (.str s) x) : x = .str s := by
  rcases h with ⟨i, e, _⟩ | ⟨z, e, rfl⟩ | ⟨b, l, e, _⟩ | ⟨b, i, j, e, _⟩ <;> cases e
  rfl
theorem part_int {H : Hp} {s : Int} {x : V} (h : Part H (.int s) x) : x = .int s := by
  rcases h with ⟨i, e, rfl⟩ | ⟨z, e, _⟩ | ⟨b, l, e, _⟩ | ⟨b, i, j, e, _⟩ <;> cases e
  rfl
theorem ints_inj : ∀ {l m : List Int}, l.map D.int = m.map D.int → l = m
  | [], [], _ => rfl
  | [], _ :: _, e => by simp at e
  | _ :: _, [], e => by simp at e
  | a :: l, b :: m, e => by
    rw [List.map_cons, List.map_cons] at e
    injection e with e1 e2
    injection e1 with e1
    rw [e1, ints_inj e2]
theorem part_line {H : Hp} {l : List Int} {x : V} (h : Part H (nums l) x) : ∃ b, x = .ref b ∧ H b = some (.lst (l.map V.int)) := by
  rcases h with ⟨i, e, _⟩ | ⟨z, e, _⟩ | ⟨b, m, e, h1, h2⟩ | ⟨b, i, j, e, _⟩
  · cases e
  · cases e
  · injection e with e
    rw [ints_inj e]
    exact ⟨b, h1, h2⟩
  · cases e
theorem part_pair {H : Hp} {i j : Int} {x : V} (h : Part H (.tup [.int i, .int j]) x) : ∃ b, x = .ref b ∧ H b = some (.tup [.int i, .int j]) := by
  rcases h with ⟨i', e, _⟩ | ⟨z, e, _⟩ | ⟨b, m, e, h1, h2⟩ | ⟨b, i', j', e, h1, h2⟩
  · cases e
  · cases e
  · cases e
  · cases e
    exact ⟨b, h1, h2⟩
theorem pI {H : Hp} {i : Int} : Part H (.int i) (.int i) := .inl ⟨i, rfl, rfl⟩
theorem pS {H : Hp} {i : Str} : Part H (.str i) (.str i) := .inr (.inl ⟨i, rfl, rfl⟩)
theorem pL {H : Hp} {b : Addr} {l : List Int} (h : H b = some (.lst (l.map V.int))) : Part H (nums l) (.ref b) := .inr (.inr (.inl ⟨b, l, rfl, rfl, h⟩))
theorem pP {H : Hp} {b : Addr} {i j : Int} (h : H b = some (.tup [.int i, .int j])) : Part H (.tup [.int i, .int j]) (.ref b) := .inr (.inr (.inr ⟨b, i, j, rfl, rfl, h⟩))
theorem kinds_ne : decide (("draw" : Str) = "call") = false ∧ decide (("hold" : Str) = "call") = false ∧ decide (("hold" : Str) = "draw") = false ∧ decide (("turn" : Str) = "call") = false ∧ decide (("turn" : Str) = "draw") = false ∧ decide (("turn" : Str) = "hold") = false ∧
    decide (("part" : Str) = "call") = false ∧ decide (("part" : Str) = "draw") = false ∧ decide (("part" : Str) = "hold") = false ∧ decide (("part" : Str) = "turn") = false ∧ decide (("set" : Str) = "call") = false ∧ decide (("set" : Str) = "draw") = false ∧ decide (("set" : Str) = "hold") = false ∧ decide (("set" : Str) = "turn") = false ∧ decide (("set" : Str) = "part") = false := by decide +kernel
theorem fn_l_hurt_deed {f : Addr} {fd : FuncData} (B : Bl K mg) {C : Nat → Addr} (Z : Zt K mg C) (G_l_hurt_line : Fn P w K mg base "_law_hurt_line" ["line", "zero", "cell"] 1 (sp_l_hurt_line K)) (F : Fun K "_law_hurt_deed" "_law_hurt_deed" s_l_hurt_deed f fd) (m : mg "_law_hurt_deed" = some (.ref f)) : Fn P w K mg base "_law_hurt_deed" ["deed", "count", "cell"] 2 (sp_l_hurt_deed K) := by
  refine Fn.of (k := 1) F sc_l_hurt_deed m (fun _ _ _ _ _ _ us hl => match us, hl with | [_, _, _], _ => rfl) (fun vs H Q E h => ?_) (fun cdv A outer s H vs Q E hr h => ?_)
  · first
    | (obtain ⟨rfl, _⟩ := h; rfl)
    | (obtain ⟨_, rfl, _⟩ := h; rfl)
    | (obtain ⟨_, _, rfl, _⟩ := h; rfl)
    | (obtain ⟨_, _, _, rfl, _⟩ := h; rfl)
    | (obtain ⟨_, _, _, _, rfl, _⟩ := h; rfl)
    | (obtain ⟨_, _, _, _, _, rfl, _⟩ := h; rfl)
    | (obtain ⟨_, _, _, _, _, _, rfl, _⟩ := h; rfl)
    | (obtain ⟨_, _, _, _, _, _, _, rfl, _⟩ := h; rfl)
    | (obtain ⟨_, _, _, _, _, _, _, _, rfl, _⟩ := h; rfl)
    | (obtain ⟨_, _, _, _, _, _, _, _, _, rfl, _⟩ := h; rfl)
    | (obtain ⟨_, _, _, _, _, _, _, _, _, _, rfl, _⟩ := h; rfl)
    | (obtain ⟨_, _, _, _, _, _, _, _, _, _, _, rfl, _⟩ := h; rfl)
    | (obtain ⟨_, _, _, _, _, _, _, _, _, _, _, _, rfl, _⟩ := h; rfl)
    | (obtain ⟨_, _, _, _, _, _, _, _, _, _, _, _, _, rfl, _⟩ := h; rfl)
    | (obtain ⟨_, _, _, _, _, _, _, _, _, _, _, _, _, _, rfl, _⟩ := h; rfl)
    | (obtain ⟨_, _, _, _, _, _, _, _, _, _, _, _, _, _, _, rfl, _⟩ := h; rfl)
    | (obtain ⟨_, _, _, _, _, _, _, _, _, _, _, _, _, _, _, _, rfl, _⟩ := h; rfl)
  obtain ⟨v, count, c, d, rfl, hD, h9, q⟩ := h
  refine ⟨_, (pss_cons (ps_set (i := 3) sc_l_hurt_deed.nd rfl (Or.inl rfl) (pe_op op_mod (pv 2) pe_int))
      (pss_cons (ps_if (pt_cmpR (k_eq K hr) (pe_ix (k_ix K) (pv 0) pe_int (fun _ _ => rfl)) pe_str (nomark _)) (pss_cons (ps_if (pt_cmpR (k_eq K hr) (pv 3) pe_int (nomark _)) (pss_one (ps_ret (pe_tup (pa_const pe_str (pa_sub (pe_ix (k_ix K) (pe_lst (pa_const pe_int (pa_un (pe_un un_neg pe_int) pa_nil))) (pe_op op_mod (pe_op op_fdiv (pv 2) pe_int) pe_int) (fun _ _ => rfl)) (pa_sub (pe_ix (k_ix K) (pv 0) pe_int (fun _ _ => rfl)) (pa_sub (pe_ix (k_ix K) (pv 0) pe_int (fun _ _ => rfl)) pa_nil))))))) pss_nil)
      (pss_cons (ps_if (pt_cmpR (k_eq K hr) (pe_op op_mod (pe_op op_fdiv (pv 2) pe_int) pe_int) pe_int (nomark _)) (pss_one (ps_ret (pe_tup (pa_const pe_str (pa_sub (pe_ix (k_ix K) (pv 0) pe_int (fun _ _ => rfl)) (pa_tup (pe_tup (pa_sub (pe_ix (k_ix K) (pe_lst (pa_const pe_int (pa_un (pe_un un_neg pe_int) pa_nil))) (pe_op op_mod (pe_op op_fdiv (pv 2) pe_int) pe_int) (fun _ _ => rfl)) (pa_sub (pe_ix (k_ix K) (pe_ix (k_ix K) (pv 0) pe_int (fun _ _ => rfl)) pe_int (fun _ _ => rfl)) pa_nil))) (pa_sub (pe_ix (k_ix K) (pv 0) pe_int (fun _ _ => rfl)) pa_nil))))))) pss_nil)
      (pss_cons (ps_if (pt_cmpR (k_eq K hr) (pe_op op_mod (pe_op op_fdiv (pv 2) pe_int) pe_int) pe_int (nomark _)) (pss_one (ps_ret (pe_tup (pa_const pe_str (pa_sub (pe_ix (k_ix K) (pv 0) pe_int (fun _ _ => rfl)) (pa_sub (pe_ix (k_ix K) (pv 0) pe_int (fun _ _ => rfl)) (pa_tup (pe_tup (pa_sub (pe_ix (k_ix K) (pe_ix (k_ix K) (pv 0) pe_int (fun _ _ => rfl)) pe_int (fun _ _ => rfl)) (pa_sub (pe_ix (k_ix K) (pe_lst (pa_const pe_int (pa_un (pe_un un_neg pe_int) pa_nil))) (pe_op op_mod (pe_op op_fdiv (pv 2) pe_int) pe_int) (fun _ _ => rfl)) pa_nil))) pa_nil))))))) pss_nil)
      (pss_one (ps_ret (pe_tup (pa_const pe_str (pa_sub (pe_ix (k_ix K) (pv 0) pe_int (fun _ _ => rfl)) (pa_sub (pe_ix (k_ix K) (pv 0) pe_int (fun _ _ => rfl)) (pa_tup (pe_tup (pa_sub (pe_ix (k_ix K) (pe_ix (k_ix K) (pv 0) pe_int (fun _ _ => rfl)) pe_int (fun _ _ => rfl)) (pa_sub (pe_ix (k_ix K) (pe_ix (k_ix K) (pv 0) pe_int (fun _ _ => rfl)) pe_int (fun _ _ => rfl)) pa_nil))) pa_nil)))))))))) pss_nil)
      (pss_cons (ps_if (pt_cmpR (k_eq K hr) (pe_ix (k_ix K) (pv 0) pe_int (fun _ _ => rfl)) pe_str (nomark _)) (pss_cons (ps_if (pt_cmpR (k_eq K hr) (pv 3) pe_int (nomark _)) (pss_one (ps_ret (pe_tup (pa_const pe_str (pa_sub (pe_ix (k_ix K) (pv 0) pe_int (fun _ _ => rfl)) (pa_bin (pe_op (k_plus K) (pe_ix (k_ix K) (pv 0) pe_int (fun _ _ => rfl)) pe_int) (pa_sub (pe_ix (k_ix K) (pv 0) pe_int (fun _ _ => rfl)) pa_nil))))))) pss_nil)
      (pss_cons (ps_set (i := 4) sc_l_hurt_deed.nd rfl (Or.inl rfl) (pe_ix (k_ix K) (pe_lst (pa_tup (pe_tup (pa_const pe_int (pa_const pe_int (pa_const pe_int pa_nil)))) (pa_tup (pe_tup (pa_un (pe_un un_neg pe_int) (pa_const pe_int (pa_const pe_int pa_nil)))) (pa_tup (pe_tup (pa_const pe_int (pa_const pe_int (pa_bin (pe_op (k_plus K) (pe_op op_pow pe_int pe_int) pe_int) pa_nil)))) (pa_tup (pe_tup (pa_const pe_int (pa_bin (pe_op op_sub (pe_un un_neg (pe_op op_pow pe_int pe_int)) pe_int) (pa_const pe_int pa_nil)))) pa_nil))))) (pe_op op_mod (pe_op op_fdiv (pv 2) pe_int) pe_int) (fun _ _ => rfl)))
      (pss_one (ps_ret (pe_tup (pa_const pe_str (pa_sub (pe_ix (k_ix K) (pv 4) pe_int (fun _ _ => rfl)) (pa_sub (pe_ix (k_ix K) (pv 4) pe_int (fun _ _ => rfl)) (pa_sub (pe_ix (k_ix K) (pv 4) pe_int (fun _ _ => rfl)) pa_nil))))))))) pss_nil)
      (pss_cons (ps_if (pt_cmpR (k_eq K hr) (pe_ix (k_ix K) (pv 0) pe_int (fun _ _ => rfl)) pe_str (nomark _)) (pss_one (ps_ret (pe_tup (pa_const pe_str (pa_call (pe_fn G_l_hurt_line hr rfl (pa_sub (pe_ix (k_ix K) (pv 0) pe_int (fun _ _ => rfl)) (pa_lst (pe_lst (pa_const pe_int (pa_const pe_int pa_nil))) (pa_bin (pe_op op_fdiv (pv 2) pe_int) pa_nil)))) pa_nil))))) pss_nil)
      (pss_cons (ps_if (pt_cmpR (k_eq K hr) (pe_ix (k_ix K) (pv 0) pe_int (fun _ _ => rfl)) pe_str (nomark _)) (pss_cons (ps_if (pt_cmpR (k_eq K hr) (pv 3) pe_int (nomark _)) (pss_one (ps_ret (pe_tup (pa_const pe_str (pa_sub (pe_ix (k_ix K) (pv 0) pe_int (fun _ _ => rfl)) (pa_sub (pe_ix (k_ix K) (pe_lst (pa_bin (pe_op (k_plus K) (pv 1) pe_int) (pa_un (pe_un un_neg pe_int) pa_nil))) (pe_op op_mod (pe_op op_fdiv (pv 2) pe_int) pe_int) (fun _ _ => rfl)) pa_nil)))))) pss_nil)
      (pss_one (ps_ret (pe_tup (pa_const pe_str (pa_call (pe_fn G_l_hurt_line hr rfl (pa_sub (pe_ix (k_ix K) (pv 0) pe_int (fun _ _ => rfl)) (pa_lst (pe_lst (pa_const pe_int (pa_const pe_int pa_nil))) (pa_bin (pe_op op_fdiv (pv 2) pe_int) pa_nil)))) (pa_sub (pe_ix (k_ix K) (pv 0) pe_int (fun _ _ => rfl)) pa_nil))))))) pss_nil)
      (pss_cons (ps_if (PW.pt (pw_and (pt_cmpR (k_eq K hr) (pe_ix (k_ix K) (pv 0) pe_int (fun _ _ => rfl)) pe_str (nomark _)) (pw_and1 (pt_cmpR (k_eq K hr) (pe_op op_mod (pe_op op_fdiv (pv 2) pe_int) pe_int) pe_int (nomark _))))) (pss_one (ps_ret (pe_tup (pa_const pe_str (pa_sub (pe_ix (k_ix K) (pv 0) pe_int (fun _ _ => rfl)) (pa_sub (pe_ix (k_ix K) (pv 0) pe_int (fun _ _ => rfl)) (pa_sub (pe_ix (k_ix K) (pe_lst (pa_const pe_int (pa_const pe_int (pa_un (pe_un un_neg pe_int) pa_nil)))) (pe_op op_mod (pe_op op_fdiv (pv 2) pe_int) pe_int) (fun _ _ => rfl)) pa_nil))))))) pss_nil)
      (pss_cons (ps_if (pt_cmpR (k_eq K hr) (pv 3) pe_int (nomark _)) (pss_one (ps_ret (pe_op (k_plus K) (pe_tup (pa_sub (pe_ix (k_ix K) (pv 0) pe_int (fun _ _ => rfl)) (pa_sub (pe_ix (k_ix K) (pe_lst (pa_const pe_int (pa_un (pe_un un_neg pe_int) pa_nil))) (pe_op op_mod (pe_op op_fdiv (pv 2) pe_int) pe_int) (fun _ _ => rfl)) (pa_sub (pe_ix (k_ix K) (pv 0) pe_int (fun _ _ => rfl)) pa_nil)))) (pe_slice (k_sl K) (pv 0) (po_some pe_int) po_none)))) pss_nil)
      (pss_one (ps_ret (pe_op (k_plus K) (pe_tup (pa_sub (pe_ix (k_ix K) (pv 0) pe_int (fun _ _ => rfl)) (pa_sub (pe_ix (k_ix K) (pv 0) pe_int (fun _ _ => rfl)) (pa_call (pe_fn G_l_hurt_line hr rfl (pa_sub (pe_ix (k_ix K) (pv 0) pe_int (fun _ _ => rfl)) (pa_lst (pe_lst (pa_const pe_int (pa_const pe_int pa_nil))) (pa_bin (pe_op op_fdiv (pv 2) pe_int) pa_nil)))) pa_nil)))) (pe_slice (k_sl K) (pv 0) (po_some pe_int) po_none))))))))))), ?_⟩
  obtain ⟨n1, n2, n3, n4, n5, n6, n7, n8, n9, n10, n11, n12, n13, n14, n15⟩ := kinds_ne
  have w2 : 0 ≤ c / 2 % 2 ∧ c / 2 % 2 < 2 := ⟨by omega, by omega⟩
  have w6 : 0 ≤ c / 6 % 2 ∧ c / 6 % 2 < 2 := ⟨by omega, by omega⟩
  have w43 : 0 ≤ c / 4 % 3 ∧ c / 4 % 3 < 3 := ⟨by omega, by omega⟩
  cases d with
  | hold l =>
    obtain ⟨t, xs, rfl, hT, px⟩ := deed_down hD
    obtain ⟨x0, r, rfl, e0, px⟩ := parts_cons px
    obtain ⟨x1, r, rfl, e1, px⟩ := parts_cons px
    cases parts_nil px; cases part_str e0
    obtain ⟨b1, rfl, hb1⟩ := part_line e1
    have hS : SqT K H t [.str "hold", .ref b1] := .inl (.inl hT)
    with_reducible refine i_seq ?_
    walk_at "gs"
    with_reducible refine i_skip (fun Q2 q2 => ?_) ?_
    · walk_at "gs"
      refine i_ixT hS (v := .str "hold") rfl ?_
      walk_at "gs"
      rw [n2]
      walk_at "gs"
      exact q2
    with_reducible refine i_skip (fun Q2 q2 => ?_) ?_
    · walk_at "gs"
      refine i_ixT hS (v := .str "hold") rfl ?_
      walk_at "gs"
      rw [n3]
      walk_at "gs"
      exact q2
    with_reducible refine i_take (fun Q2 q2 => ?_) (fun NX => ?_)
    · walk_at "gs"
      refine i_ixT hS (v := .str "hold") rfl ?_
      walk_at "gs"
      rw [decide_eq_true rfl]
      exact q2
    walk_at "gs"
    refine i_ixT hS (v := .ref b1) rfl ?_
    walk_at "gs"
    refine ⟨small_le (by simp), fun z hz => ?_⟩
    have s0 := same_upd hz (.lst [V.int 6, .int 7])
    walk_at "gs"
    refine ⟨b1, z, l, [6, 7], c / 2, rfl, SqL.of (s0 _ _ hb1), SqL.of upd_same, h9, by decide, zero2, fun v H1 s1 m1 => ?_⟩
    obtain ⟨la, rfl, la0, la1⟩ := New.ints_iff.mp m1
    have s01 := s0.trans s1
    walk_at "gs"
    refine ⟨small_le (by simp), fun t2 ht2 => ?_⟩
    have s9 := same_upd ht2 (.tup [V.str "hold", V.ref la])
    refine q _ _ (s01.trans s9) ?_
    
    exact deed_up upd_same (by simp) ⟨pS, pL (s9 _ _ la1), trivial⟩
  | turn l p =>
    obtain ⟨t, xs, rfl, hT, px⟩ := deed_down hD
    obtain ⟨x0, r, rfl, e0, px⟩ := parts_cons px
    obtain ⟨x1, r, rfl, e1, px⟩ := parts_cons px
    obtain ⟨x2, r, rfl, e2, px⟩ := parts_cons px
    cases parts_nil px; cases part_str e0
    obtain ⟨b1, rfl, hb1⟩ := part_line e1
    cases part_int e2
    have hS : SqT K H t [.str "turn", .ref b1, .int p] := .inl (.inl hT)
    with_reducible refine i_seq ?_
    walk_at "gs"
    with_reducible refine i_skip (fun Q2 q2 => ?_) ?_
    · walk_at "gs"
      refine i_ixT hS (v := .str "turn") rfl ?_
      walk_at "gs"
      rw [n4]
      walk_at "gs"
      exact q2
    with_reducible refine i_skip (fun Q2 q2 => ?_) ?_
    · walk_at "gs"
      refine i_ixT hS (v := .str "turn") rfl ?_
      walk_at "gs"
      rw [n5]
      walk_at "gs"
      exact q2
    with_reducible refine i_skip (fun Q2 q2 => ?_) ?_
    · walk_at "gs"
      refine i_ixT hS (v := .str "turn") rfl ?_
      walk_at "gs"
      rw [n6]
      walk_at "gs"
      exact q2
    with_reducible refine i_take (fun Q2 q2 => ?_) (fun NX => ?_)
    · walk_at "gs"
      refine i_ixT hS (v := .str "turn") rfl ?_
      walk_at "gs"
      rw [decide_eq_true rfl]
      exact q2
    by_cases e : c % 2 = 0
    · with_reducible refine i_take (fun Q2 q2 => ?_) (fun NX => ?_)
      · walk_at "gs"
        rw [decide_eq_true e]
        exact q2
      walk_at "gs"
      refine i_ixT hS (v := .ref b1) rfl ?_
      walk_at "gs"
      refine ⟨small_le (by simp), fun p1 hp1 => ?_⟩
      have s0 := same_upd hp1 (.lst [V.int (count + 1), V.int (-1)])
      walk_at "gs"
      refine i_ixL (SqL.of upd_same) (at_two w2.1 w2.2) ?_
      walk_at "gs"
      refine ⟨small_le (by simp), fun t2 ht2 => ?_⟩
      have s9 := same_upd ht2 (.tup [V.str "turn", V.ref b1, V.int (two (c / 2 % 2) (count + 1) (-1))])
      refine q _ _ (s0.trans s9) ?_
      rw [show hurtDeed count c (.turn l p) = .turn l (two (c / 2 % 2) (count + 1) (-1)) by simp only [hurtDeed]; rw [if_pos e]]
      exact deed_up upd_same (by simp) ⟨pS, pL ((s0.trans s9) _ _ hb1), pI, trivial⟩

    with_reducible refine i_skip (fun Q2 q2 => ?_) ?_
    · walk_at "gs"
      rw [decide_eq_false e]
      exact q2
    walk_at "gs"
    refine i_ixT hS (v := .ref b1) rfl ?_
    walk_at "gs"
    refine ⟨small_le (by simp), fun z hz => ?_⟩
    have s0 := same_upd hz (.lst [V.int 6, .int 7])
    walk_at "gs"
    refine ⟨b1, z, l, [6, 7], c / 2, rfl, SqL.of (s0 _ _ hb1), SqL.of upd_same, h9, by decide, zero2, fun v H1 s1 m1 => ?_⟩
    obtain ⟨la, rfl, la0, la1⟩ := New.ints_iff.mp m1
    have s01 := s0.trans s1
    walk_at "gs"
    refine i_ixT (s01.tup hS) (v := .int p) rfl ?_
    walk_at "gs"
    refine ⟨small_le (by simp), fun t2 ht2 => ?_⟩
    have s9 := same_upd ht2 (.tup [V.str "turn", V.ref la, V.int p])
    refine q _ _ (s01.trans s9) ?_
    rw [show hurtDeed count c (.turn l p) = .turn (hurtLine l [6, 7] (c / 2)) p by simp only [hurtDeed]; rw [if_neg e]]
    exact deed_up upd_same (by simp) ⟨pS, pL (s9 _ _ la1), pI, trivial⟩
  | draw h lo hi =>
    obtain ⟨t, xs, rfl, hT, px⟩ := deed_down hD
    obtain ⟨x0, r, rfl, e0, px⟩ := parts_cons px
    obtain ⟨x1, r, rfl, e1, px⟩ := parts_cons px
    obtain ⟨x2, r, rfl, e2, px⟩ := parts_cons px
    obtain ⟨x3, r, rfl, e3, px⟩ := parts_cons px
    cases parts_nil px; cases part_str e0
    cases part_int e1
    cases part_int e2
    cases part_int e3
    have hS : SqT K H t [.str "draw", .int h, .int lo, .int hi] := .inl (.inl hT)
    with_reducible refine i_seq ?_
    walk_at "gs"
    with_reducible refine i_skip (fun Q2 q2 => ?_) ?_
    · walk_at "gs"
      refine i_ixT hS (v := .str "draw") rfl ?_
      walk_at "gs"
      rw [n1]
      walk_at "gs"
      exact q2
    with_reducible refine i_take (fun Q2 q2 => ?_) (fun NX => ?_)
    · walk_at "gs"
      refine i_ixT hS (v := .str "draw") rfl ?_
      walk_at "gs"
      rw [decide_eq_true rfl]
      exact q2
    by_cases e : c % 2 = 0
    · with_reducible refine i_take (fun Q2 q2 => ?_) (fun NX => ?_)
      · walk_at "gs"
        rw [decide_eq_true e]
        exact q2
      walk_at "gs"
      refine i_ixT hS (v := .int h) rfl ?_
      walk_at "gs"
      refine i_ixT hS (v := .int hi) rfl ?_
      walk_at "gs"
      refine i_ixT hS (v := .int hi) rfl ?_
      walk_at "gs"
      refine ⟨small_le (by simp), fun t2 ht2 => ?_⟩
      have s9 := same_upd ht2 (.tup [V.str "draw", V.int h, V.int (hi + 1), V.int hi])
      refine q _ _ ((Same.refl H).trans s9) ?_
      rw [show hurtDeed count c (.draw h lo hi) = .draw h (hi + 1) hi by simp only [hurtDeed]; rw [if_pos e]]
      exact deed_up upd_same (by simp) ⟨pS, pI, pI, pI, trivial⟩

    with_reducible refine i_skip (fun Q2 q2 => ?_) ?_
    · walk_at "gs"
      rw [decide_eq_false e]
      exact q2
    with_reducible refine i_seq ?_
    walk_at "gs"
    refine ⟨small_le (by simp), fun u0 hu0 => ?_⟩
    have su0 := same_upd hu0 (.tup [V.int 4, V.int 0, V.int 1])
    walk_at "gs"
    refine ⟨small_le (by simp), fun u1 hu1 => ?_⟩
    have su1 := same_upd hu1 (.tup [V.int (-1), V.int 0, V.int 1])
    walk_at "gs"
    refine ⟨small_le (by simp), fun u2 hu2 => ?_⟩
    have su2 := same_upd hu2 (.tup [V.int 0, V.int 0, V.int (1000000000 + 1)])
    walk_at "gs"
    refine ⟨small_le (by simp), fun u3 hu3 => ?_⟩
    have su3 := same_upd hu3 (.tup [V.int 0, V.int (-1000000000 - 1), V.int 0])
    walk_at "gs"
    refine ⟨small_le (by simp), fun ul hul => ?_⟩
    have sul := same_upd hul (.lst [V.ref u0, .ref u1, .ref u2, .ref u3])
    have f0 := sul _ _ (su3 _ _ (su2 _ _ (su1 _ _ (upd_same (H := H) (a := u0) (o := .tup [V.int 4, .int 0, .int 1])))))
    have f1 := sul _ _ (su3 _ _ (su2 _ _ (upd_same (H := (upd H u0 (.tup [V.int 4, .int 0, .int 1]))) (a := u1) (o := .tup [V.int (-1), .int 0, .int 1]))))
    have f2 := sul _ _ (su3 _ _ (upd_same (H := (upd (upd H u0 (.tup [V.int 4, .int 0, .int 1])) u1 (.tup [V.int (-1), .int 0, .int 1]))) (a := u2) (o := .tup [V.int 0, .int 0, .int (1000000000 + 1)])))
    have f3 := sul _ _ (upd_same (H := (upd (upd (upd H u0 (.tup [V.int 4, .int 0, .int 1])) u1 (.tup [V.int (-1), .int 0, .int 1])) u2 (.tup [V.int 0, .int 0, .int (1000000000 + 1)]))) (a := u3) (o := .tup [V.int 0, .int (-1000000000 - 1), .int 0]))
    have fl := upd_same (H := (upd (upd (upd (upd H u0 (.tup [V.int 4, .int 0, .int 1])) u1 (.tup [V.int (-1), .int 0, .int 1])) u2 (.tup [V.int 0, .int 0, .int (1000000000 + 1)])) u3 (.tup [V.int 0, .int (-1000000000 - 1), .int 0]))) (a := ul) (o := .lst [V.ref u0, .ref u1, .ref u2, .ref u3])
    have sH := su0.trans (su1.trans (su2.trans (su3.trans sul)))
    generalize (upd (upd (upd (upd (upd H u0 (.tup [V.int 4, .int 0, .int 1])) u1 (.tup [V.int (-1), .int 0, .int 1])) u2 (.tup [V.int 0, .int 0, .int (1000000000 + 1)])) u3 (.tup [V.int 0, .int (-1000000000 - 1), .int 0])) ul (.lst [V.ref u0, .ref u1, .ref u2, .ref u3])) = H5 at f0 f1 f2 f3 fl sH
    walk_at "gs"
    obtain ⟨ua, i, j, k, ea, hu, hk⟩ : ∃ ua i j k, atI [V.ref u0, .ref u1, .ref u2, .ref u3] (c / 2 % 4) = some (.ref ua) ∧ H5 ua = some (.tup [.int i, .int j, .int k]) ∧ hurtDeed count c (.draw h lo hi) = .draw i j k := by
      have : c / 2 % 4 = 0 ∨ c / 2 % 4 = 1 ∨ c / 2 % 4 = 2 ∨ c / 2 % 4 = 3 := by omega
      simp only [hurtDeed]
      rw [if_neg e]
      rcases this with z | z | z | z <;> rw [z]
      · exact ⟨u0, _, _, _, rfl, f0, rfl⟩
      · exact ⟨u1, _, _, _, rfl, f1, rfl⟩
      · exact ⟨u2, _, _, _, rfl, f2, rfl⟩
      · exact ⟨u3, _, _, _, rfl, f3, rfl⟩
    refine i_ixL (SqL.of fl) ea ?_
    walk_at "gs"
    refine i_ixT (SqT.of hu) (v := .int i) rfl ?_
    walk_at "gs"
    refine i_ixT (SqT.of hu) (v := .int j) rfl ?_
    walk_at "gs"
    refine i_ixT (SqT.of hu) (v := .int k) rfl ?_
    walk_at "gs"
    refine ⟨small_le (by simp), fun t2 ht2 => ?_⟩
    have s9 := same_upd ht2 (.tup [V.str "draw", V.int i, V.int j, V.int k])
    refine q _ _ (sH.trans s9) ?_
    rw [hk]
    exact deed_up upd_same (by simp) ⟨pS, pI, pI, pI, trivial⟩
  | call n g0 g1 t0 t1 =>
    obtain ⟨t, xs, rfl, hT, px⟩ := deed_down hD
    obtain ⟨x0, r, rfl, e0, px⟩ := parts_cons px
    obtain ⟨x1, r, rfl, e1, px⟩ := parts_cons px
    obtain ⟨x2, r, rfl, e2, px⟩ := parts_cons px
    obtain ⟨x3, r, rfl, e3, px⟩ := parts_cons px
    cases parts_nil px; cases part_str e0
    cases part_int e1
    obtain ⟨b2, rfl, hb2⟩ := part_pair e2
    obtain ⟨b3, rfl, hb3⟩ := part_pair e3
    have hS : SqT K H t [.str "call", .int n, .ref b2, .ref b3] := .inl (.inl hT)
    with_reducible refine i_seq ?_
    walk_at "gs"
    with_reducible refine i_take (fun Q2 q2 => ?_) (fun NX => ?_)
    · walk_at "gs"
      refine i_ixT hS (v := .str "call") rfl ?_
      walk_at "gs"
      rw [decide_eq_true rfl]
      exact q2
    by_cases e : c % 2 = 0
    · with_reducible refine i_take (fun Q2 q2 => ?_) (fun NX => ?_)
      · walk_at "gs"
        rw [decide_eq_true e]
        exact q2
      walk_at "gs"
      refine ⟨small_le (by simp), fun p1 hp1 => ?_⟩
      have s0 := same_upd hp1 (.lst [V.int 100, V.int (-1)])
      walk_at "gs"
      refine i_ixL (SqL.of upd_same) (at_two w2.1 w2.2) ?_
      walk_at "gs"
      refine i_ixT (s0.tup hS) (v := .ref b2) rfl ?_
      walk_at "gs"
      refine i_ixT (s0.tup hS) (v := .ref b3) rfl ?_
      walk_at "gs"
      refine ⟨small_le (by simp), fun t2 ht2 => ?_⟩
      have s9 := same_upd ht2 (.tup [V.str "call", V.int (two (c / 2 % 2) 100 (-1)), V.ref b2, V.ref b3])
      refine q _ _ (s0.trans s9) ?_
      rw [show hurtDeed count c (.call n g0 g1 t0 t1) = .call (two (c / 2 % 2) 100 (-1)) g0 g1 t0 t1 by simp only [hurtDeed]; rw [if_pos e]]
      exact deed_up upd_same (by simp) ⟨pS, pI, pP ((s0.trans s9) _ _ hb2), pP ((s0.trans s9) _ _ hb3), trivial⟩

    with_reducible refine i_skip (fun Q2 q2 => ?_) ?_
    · walk_at "gs"
      rw [decide_eq_false e]
      exact q2
    by_cases e2 : c / 2 % 3 = 0
    · with_reducible refine i_take (fun Q2 q2 => ?_) (fun NX => ?_)
      · walk_at "gs"
        rw [decide_eq_true e2]
        exact q2
      walk_at "gs"
      refine i_ixT hS (v := .int n) rfl ?_
      walk_at "gs"
      refine ⟨small_le (by simp), fun p1 hp1 => ?_⟩
      have s0 := same_upd hp1 (.lst [V.int 4, V.int (-1)])
      walk_at "gs"
      refine i_ixL (SqL.of upd_same) (at_two w6.1 w6.2) ?_
      walk_at "gs"
      refine i_ixT (s0.tup hS) (v := .ref b2) rfl ?_
      walk_at "gs"
      refine i_ixT (SqT.of (s0 _ _ hb2)) (v := .int g1) rfl ?_
      walk_at "gs"
      refine ⟨small_le (by simp), fun p2 hp2 => ?_⟩
      have s1 := s0.trans (same_upd hp2 (.tup [V.int (two (c / 6 % 2) 4 (-1)), .int g1]))
      walk_at "gs"
      refine i_ixT (s1.tup hS) (v := .ref b3) rfl ?_
      walk_at "gs"
      refine ⟨small_le (by simp), fun t2 ht2 => ?_⟩
      have s9 := same_upd ht2 (.tup [V.str "call", V.int n, V.ref p2, V.ref b3])
      refine q _ _ (s1.trans s9) ?_
      rw [show hurtDeed count c (.call n g0 g1 t0 t1) = .call n (two (c / 6 % 2) 4 (-1)) g1 t0 t1 by simp only [hurtDeed]; rw [if_neg e, if_pos e2]]
      exact deed_up upd_same (by simp) ⟨pS, pI, pP (s9 _ _ upd_same), pP ((s1.trans s9) _ _ hb3), trivial⟩

    with_reducible refine i_skip (fun Q2 q2 => ?_) ?_
    · walk_at "gs"
      rw [decide_eq_false e2]
      exact q2
    by_cases e3 : c / 2 % 3 = 1
    · with_reducible refine i_take (fun Q2 q2 => ?_) (fun NX => ?_)
      · walk_at "gs"
        rw [decide_eq_true e3]
        exact q2
      walk_at "gs"
      refine i_ixT hS (v := .int n) rfl ?_
      walk_at "gs"
      refine i_ixT hS (v := .ref b2) rfl ?_
      walk_at "gs"
      refine i_ixT hS (v := .ref b3) rfl ?_
      walk_at "gs"
      refine i_ixT (SqT.of hb3) (v := .int t0) rfl ?_
      walk_at "gs"
      refine ⟨small_le (by simp), fun p1 hp1 => ?_⟩
      have s0 := same_upd hp1 (.lst [V.int 4, V.int (-1)])
      walk_at "gs"
      refine i_ixL (SqL.of upd_same) (at_two w6.1 w6.2) ?_
      walk_at "gs"
      refine ⟨small_le (by simp), fun p2 hp2 => ?_⟩
      have s1 := s0.trans (same_upd hp2 (.tup [V.int t0, .int (two (c / 6 % 2) 4 (-1))]))
      walk_at "gs"
      refine ⟨small_le (by simp), fun t2 ht2 => ?_⟩
      have s9 := same_upd ht2 (.tup [V.str "call", V.int n, V.ref b2, V.ref p2])
      refine q _ _ (s1.trans s9) ?_
      rw [show hurtDeed count c (.call n g0 g1 t0 t1) = .call n g0 g1 t0 (two (c / 6 % 2) 4 (-1)) by simp only [hurtDeed]; rw [if_neg e, if_neg e2, if_pos e3]]
      exact deed_up upd_same (by simp) ⟨pS, pI, pP ((s1.trans s9) _ _ hb2), pP (s9 _ _ upd_same), trivial⟩

    with_reducible refine i_skip (fun Q2 q2 => ?_) ?_
    · walk_at "gs"
      rw [decide_eq_false e3]
      exact q2
    walk_at "gs"
    refine i_ixT hS (v := .int n) rfl ?_
    walk_at "gs"
    refine i_ixT hS (v := .ref b2) rfl ?_
    walk_at "gs"
    refine i_ixT hS (v := .ref b3) rfl ?_
    walk_at "gs"
    refine i_ixT (SqT.of hb3) (v := .int t1) rfl ?_
    walk_at "gs"
    refine i_ixT hS (v := .ref b3) rfl ?_
    walk_at "gs"
    refine i_ixT (SqT.of hb3) (v := .int t1) rfl ?_
    walk_at "gs"
    refine ⟨small_le (by simp), fun p2 hp2 => ?_⟩
    have s1 := same_upd hp2 (.tup [V.int t1, .int t1])
    walk_at "gs"
    refine ⟨small_le (by simp), fun t2 ht2 => ?_⟩
    have s9 := same_upd ht2 (.tup [V.str "call", V.int n, V.ref b2, V.ref p2])
    refine q _ _ (s1.trans s9) ?_
    rw [show hurtDeed count c (.call n g0 g1 t0 t1) = .call n g0 g1 t1 t1 by simp only [hurtDeed]; rw [if_neg e, if_neg e2, if_neg e3]]
    exact deed_up upd_same (by simp) ⟨pS, pI, pP ((s1.trans s9) _ _ hb2), pP (s9 _ _ upd_same), trivial⟩
  | part h l b =>
    obtain ⟨t, xs, rfl, hT, px⟩ := deed_down hD
    obtain ⟨x0, r, rfl, e0, px⟩ := parts_cons px
    obtain ⟨x1, r, rfl, e1, px⟩ := parts_cons px
    obtain ⟨x2, r, rfl, e2, px⟩ := parts_cons px
    obtain ⟨x3, r, rfl, e3, px⟩ := parts_cons px
    cases parts_nil px; cases part_str e0
    cases part_int e1
    obtain ⟨b2, rfl, hb2⟩ := part_line e2
    cases part_int e3
    have hS : SqT K H t [.str "part", .int h, .ref b2, .int b] := .inl (.inl hT)
    with_reducible refine i_seq ?_
    walk_at "gs"
    with_reducible refine i_skip (fun Q2 q2 => ?_) ?_
    · walk_at "gs"
      refine i_ixT hS (v := .str "part") rfl ?_
      walk_at "gs"
      rw [n7]
      walk_at "gs"
      exact q2
    with_reducible refine i_skip (fun Q2 q2 => ?_) ?_
    · walk_at "gs"
      refine i_ixT hS (v := .str "part") rfl ?_
      walk_at "gs"
      rw [n8]
      walk_at "gs"
      exact q2
    with_reducible refine i_skip (fun Q2 q2 => ?_) ?_
    · walk_at "gs"
      refine i_ixT hS (v := .str "part") rfl ?_
      walk_at "gs"
      rw [n9]
      walk_at "gs"
      exact q2
    with_reducible refine i_skip (fun Q2 q2 => ?_) ?_
    · walk_at "gs"
      refine i_ixT hS (v := .str "part") rfl ?_
      walk_at "gs"
      rw [n10]
      walk_at "gs"
      exact q2
    by_cases e : c / 2 % 2 = 0
    · with_reducible refine i_take (fun Q2 q2 => ?_) (fun NX => ?_)
      · walk_at "gs"
        refine i_ixT hS (v := .str "part") rfl ?_
        walk_at "gs"
        rw [decide_eq_true rfl]
        walk_at "gs"
        rw [decide_eq_true e]
        exact q2
      walk_at "gs"
      refine i_ixT hS (v := .int h) rfl ?_
      walk_at "gs"
      refine i_ixT hS (v := .ref b2) rfl ?_
      walk_at "gs"
      refine ⟨small_le (by simp), fun p1 hp1 => ?_⟩
      have s0 := same_upd hp1 (.lst [V.int 0, V.int 1001, V.int (-1)])
      walk_at "gs"
      refine i_ixL (SqL.of upd_same) (at_three w43.1 w43.2) ?_
      walk_at "gs"
      refine ⟨small_le (by simp), fun t2 ht2 => ?_⟩
      have s9 := same_upd ht2 (.tup [V.str "part", V.int h, V.ref b2, V.int (three (c / 4 % 3) 0 1001 (-1))])
      refine q _ _ (s0.trans s9) ?_
      rw [show hurtDeed count c (.part h l b) = .part h l (three (c / 4 % 3) 0 1001 (-1)) by simp only [hurtDeed]; rw [if_pos e]]
      exact deed_up upd_same (by simp) ⟨pS, pI, pL ((s0.trans s9) _ _ hb2), pI, trivial⟩

    with_reducible refine i_skip (fun Q2 q2 => ?_) ?_
    · walk_at "gs"
      refine i_ixT hS (v := .str "part") rfl ?_
      walk_at "gs"
      rw [decide_eq_true rfl]
      walk_at "gs"
      rw [decide_eq_false e]
      exact q2
    by_cases e2 : c % 2 = 0
    · with_reducible refine i_take (fun Q2 q2 => ?_) (fun NX => ?_)
      · walk_at "gs"
        rw [decide_eq_true e2]
        exact q2
      walk_at "gs"
      refine i_ixT hS (v := .str "part") rfl ?_
      walk_at "gs"
      refine ⟨small_le (by simp), fun p1 hp1 => ?_⟩
      have s0 := same_upd hp1 (.lst [V.int 4, V.int (-1)])
      walk_at "gs"
      refine i_ixL (SqL.of upd_same) (at_two w2.1 w2.2) ?_
      walk_at "gs"
      refine i_ixT (s0.tup hS) (v := .ref b2) rfl ?_
      walk_at "gs"
      refine ⟨small_le (by simp), fun t1 ht1 => ?_⟩
      have s5 := s0.trans (same_upd ht1 (.tup [V.str "part", V.int (two (c / 2 % 2) 4 (-1)), V.ref b2]))
      walk_at "gs"
      refine .inr ⟨t, _, rfl, s5.tup hS, (fun z => absurd z.1 (by show ¬ (HT.sIx 4 0 (some 3) = 0); decide)), fun t3 ht3 => ?_⟩
      have s6 := s5.trans (same_upd ht3 (.tup [V.int b]))
      walk_at "gs"
      refine .inr (.inr ⟨t1, t3, _, [.int b], rfl, rfl, SqT.of (same_upd ht3 _ _ _ upd_same), SqT.of upd_same, by simp, small_le (by simp), fun z => ?_, fun z => ?_⟩)
      · cases z
      intro t2 ht2
      have s9 := same_upd ht2 (.tup [V.str "part", V.int (two (c / 2 % 2) 4 (-1)), V.ref b2, V.int b])
      refine q _ _ (s6.trans s9) ?_
      rw [show hurtDeed count c (.part h l b) = .part (two (c / 2 % 2) 4 (-1)) l b by simp only [hurtDeed]; rw [if_neg e, if_pos e2]]
      exact deed_up upd_same (by simp) ⟨pS, pI, pL ((s6.trans s9) _ _ hb2), pI, trivial⟩

    with_reducible refine i_skip (fun Q2 q2 => ?_) ?_
    · walk_at "gs"
      rw [decide_eq_false e2]
      exact q2
    walk_at "gs"
    refine i_ixT hS (v := .str "part") rfl ?_
    walk_at "gs"
    refine i_ixT hS (v := .int h) rfl ?_
    walk_at "gs"
    refine i_ixT hS (v := .ref b2) rfl ?_
    walk_at "gs"
    refine ⟨small_le (by simp), fun z hz => ?_⟩
    have s0 := same_upd hz (.lst [V.int 6, .int 7])
    walk_at "gs"
    refine ⟨b2, z, l, [6, 7], c / 4, rfl, SqL.of (s0 _ _ hb2), SqL.of upd_same, h9, by decide, zero2, fun v H1 s1 m1 => ?_⟩
    obtain ⟨la, rfl, la0, la1⟩ := New.ints_iff.mp m1
    have s01 := s0.trans s1
    walk_at "gs"
    refine ⟨small_le (by simp), fun t1 ht1 => ?_⟩
    have s5 := s01.trans (same_upd ht1 (.tup [V.str "part", V.int h, V.ref la]))
    walk_at "gs"
    refine .inr ⟨t, _, rfl, s5.tup hS, (fun z => absurd z.1 (by show ¬ (HT.sIx 4 0 (some 3) = 0); decide)), fun t3 ht3 => ?_⟩
    have s6 := s5.trans (same_upd ht3 (.tup [V.int b]))
    walk_at "gs"
    refine .inr (.inr ⟨t1, t3, _, [.int b], rfl, rfl, SqT.of (same_upd ht3 _ _ _ upd_same), SqT.of upd_same, by simp, small_le (by simp), fun z => ?_, fun z => ?_⟩)
    · cases z
    intro t2 ht2
    have s9 := same_upd ht2 (.tup [V.str "part", V.int h, V.ref la, V.int b])
    refine q _ _ (s6.trans s9) ?_
    rw [show hurtDeed count c (.part h l b) = .part h (hurtLine l [6, 7] (c / 4)) b by simp only [hurtDeed]; rw [if_neg e, if_neg e2]]
    exact deed_up upd_same (by simp) ⟨pS, pI, pL (s9 _ _ (same_upd ht3 _ _ _ (same_upd ht1 _ _ _ la1))), pI, trivial⟩
  | set h l =>
    obtain ⟨t, xs, rfl, hT, px⟩ := deed_down hD
    obtain ⟨x0, r, rfl, e0, px⟩ := parts_cons px
    obtain ⟨x1, r, rfl, e1, px⟩ := parts_cons px
    obtain ⟨x2, r, rfl, e2, px⟩ := parts_cons px
    cases parts_nil px; cases part_str e0
    cases part_int e1
    obtain ⟨b2, rfl, hb2⟩ := part_line e2
    have hS : SqT K H t [.str "set", .int h, .ref b2] := .inl (.inl hT)
    with_reducible refine i_seq ?_
    walk_at "gs"
    with_reducible refine i_skip (fun Q2 q2 => ?_) ?_
    · walk_at "gs"
      refine i_ixT hS (v := .str "set") rfl ?_
      walk_at "gs"
      rw [n11]
      walk_at "gs"
      exact q2
    with_reducible refine i_skip (fun Q2 q2 => ?_) ?_
    · walk_at "gs"
      refine i_ixT hS (v := .str "set") rfl ?_
      walk_at "gs"
      rw [n12]
      walk_at "gs"
      exact q2
    with_reducible refine i_skip (fun Q2 q2 => ?_) ?_
    · walk_at "gs"
      refine i_ixT hS (v := .str "set") rfl ?_
      walk_at "gs"
      rw [n13]
      walk_at "gs"
      exact q2
    with_reducible refine i_skip (fun Q2 q2 => ?_) ?_
    · walk_at "gs"
      refine i_ixT hS (v := .str "set") rfl ?_
      walk_at "gs"
      rw [n14]
      walk_at "gs"
      exact q2
    with_reducible refine i_skip (fun Q2 q2 => ?_) ?_
    · walk_at "gs"
      refine i_ixT hS (v := .str "set") rfl ?_
      walk_at "gs"
      rw [n15]
      walk_at "gs"
      exact q2
    by_cases e2 : c % 2 = 0
    · with_reducible refine i_take (fun Q2 q2 => ?_) (fun NX => ?_)
      · walk_at "gs"
        rw [decide_eq_true e2]
        exact q2
      walk_at "gs"
      refine i_ixT hS (v := .str "set") rfl ?_
      walk_at "gs"
      refine ⟨small_le (by simp), fun p1 hp1 => ?_⟩
      have s0 := same_upd hp1 (.lst [V.int 4, V.int (-1)])
      walk_at "gs"
      refine i_ixL (SqL.of upd_same) (at_two w2.1 w2.2) ?_
      walk_at "gs"
      refine i_ixT (s0.tup hS) (v := .ref b2) rfl ?_
      walk_at "gs"
      refine ⟨small_le (by simp), fun t1 ht1 => ?_⟩
      have s5 := s0.trans (same_upd ht1 (.tup [V.str "set", V.int (two (c / 2 % 2) 4 (-1)), V.ref b2]))
      walk_at "gs"
      refine .inr ⟨t, _, rfl, s5.tup hS, (fun z => absurd z.1 (by show ¬ (HT.sIx 3 0 (some 3) = 0); decide)), fun t3 ht3 => ?_⟩
      have s6 := s5.trans (same_upd ht3 (.tup []))
      walk_at "gs"
      refine .inr (.inr ⟨t1, t3, _, [], rfl, rfl, SqT.of (same_upd ht3 _ _ _ upd_same), SqT.of upd_same, by simp, small_le (by simp), fun z => ?_, fun z => ?_⟩)
      · refine q _ _ s6 ?_
        rw [show hurtDeed count c (.set h l) = .set (two (c / 2 % 2) 4 (-1)) l by simp only [hurtDeed]; rw [if_pos e2]]
        exact deed_up (same_upd ht3 _ _ _ upd_same) (by simp) ⟨pS, pI, pL (s6 _ _ hb2), trivial⟩
      · exact absurd rfl z

    with_reducible refine i_skip (fun Q2 q2 => ?_) ?_
    · walk_at "gs"
      rw [decide_eq_false e2]
      exact q2
    walk_at "gs"
    refine i_ixT hS (v := .str "set") rfl ?_
    walk_at "gs"
    refine i_ixT hS (v := .int h) rfl ?_
    walk_at "gs"
    refine i_ixT hS (v := .ref b2) rfl ?_
    walk_at "gs"
    refine ⟨small_le (by simp), fun z hz => ?_⟩
    have s0 := same_upd hz (.lst [V.int 6, .int 7])
    walk_at "gs"
    refine ⟨b2, z, l, [6, 7], c / 4, rfl, SqL.of (s0 _ _ hb2), SqL.of upd_same, h9, by decide, zero2, fun v H1 s1 m1 => ?_⟩
    obtain ⟨la, rfl, la0, la1⟩ := New.ints_iff.mp m1
    have s01 := s0.trans s1
    walk_at "gs"
    refine ⟨small_le (by simp), fun t1 ht1 => ?_⟩
    have s5 := s01.trans (same_upd ht1 (.tup [V.str "set", V.int h, V.ref la]))
    walk_at "gs"
    refine .inr ⟨t, _, rfl, s5.tup hS, (fun z => absurd z.1 (by show ¬ (HT.sIx 3 0 (some 3) = 0); decide)), fun t3 ht3 => ?_⟩
    have s6 := s5.trans (same_upd ht3 (.tup []))
    walk_at "gs"
    refine .inr (.inr ⟨t1, t3, _, [], rfl, rfl, SqT.of (same_upd ht3 _ _ _ upd_same), SqT.of upd_same, by simp, small_le (by simp), fun z => ?_, fun z => ?_⟩)
    · refine q _ _ s6 ?_
      rw [show hurtDeed count c (.set h l) = .set h (hurtLine l [6, 7] (c / 4)) by simp only [hurtDeed]; rw [if_neg e2]]
      exact deed_up (same_upd ht3 _ _ _ upd_same) (by simp) ⟨pS, pI, pL (same_upd ht3 _ _ _ (same_upd ht1 _ _ _ la1)), trivial⟩
    · exact absurd rfl z
def sp_l_hurt_lines (K : PySem.W.Frag) : Sp := fun vs H Q _ => ∃ (a z : Addr) (ls : List (List Int)) (zero : List Int) (c : Int), vs = [.ref a, .ref z, .int c] ∧ Rep K H (linesV ls) (.ref a) ∧ SqL K H z (zero.map V.int) ∧ ls.length ≤ 2 ∧ (∀ l ∈ ls, l.length = 9) ∧ zero.length ≤ 8 ∧ (∀ z ∈ zero, 0 ≤ z ∧ z < 8) ∧ ∀ v H', Same H H' → New H H' (linesV (hurtLines ls zero c)) v → Q v H'
theorem hurt_loop {K : PySem.W.Frag} {H H1 : Hp} {p a z : Addr} {c : Int} {ls : List (List Int)} {vs : List V} {D : Ends} (p0 : H p = none) (l2 : ls.length ≤ 2) (s1 : Same H H1) (ac : Acc H p H1 (ls.map nums) vs)
    (q : ∀ H2, Same H H2 → New H H2 (linesV (padN (3 - ls.length) c ls)) (.ref p) → D.nx [some (.ref a), some (.ref z), some (.int c), some (.ref p), none] H2) :
    tWhile (tTest (tOp (rI0 fun i j => V.bl (decide (i < j))) (tCB (rLen K) (tCons (tVar 3) tNil)) (tC (V.int 3)))) (tDrop (tBM K "list" rInsert (tVar 3) (tCons (tOp (rI (fun _ j => 0 < j) fun i j => V.int (i % j)) (tOp (rI CDiv fun i j => V.int (i / j)) (tVar 2) (tC (V.int 3))) (tOp (rPlus K) (tCB (rLen K) (tCons (tVar 3) tNil)) (tC (V.int 1)))) (tCons (tOp rTimes (tLst (tCons (tC (V.int 0)) tNil)) (tC (V.int 9))) tNil)))) D [some (.ref a), some (.ref z), some (.int c), some (.ref p), none] H1 := by
  have away : ∀ {H2 : Hp} {o : HO}, Same H H2 → Same H (upd H2 p o) := fun s b u e => by rw [upd_ne (ne_of_none e p0)]; exact s _ _ e
  refine ⟨fun m σ H2 => ∃ ls' vs', σ = [some (.ref a), some (.ref z), some (.int c), some (.ref p), none] ∧ Same H H2 ∧ Acc H p H2 (ls'.map nums) vs' ∧ ls'.length ≤ 3 ∧ m = 3 - ls'.length ∧ padN (3 - ls'.length) c ls' = padN (3 - ls.length) c ls, ⟨_, ls, vs, rfl, s1, ac, by omega, rfl, rfl⟩, ?_⟩
  rintro m σ H2 ⟨ls', vs', rfl, s2, ac2, l3, rfl, ep⟩
  have lv := ac2.len
  rw [List.length_map] at lv
  walk_at "go"
  refine i_len (.inl (SqL.of ac2.get)) ?_
  walk_at "go"
  rw [← lv]
  refine i_ite (fun e => ?_) (fun e => ?_)
  · have e' : ls'.length < 3 := by have := of_decide_eq_true e; omega
    have b1 : 0 ≤ c / 3 % ((ls'.length : Int) + 1) := Int.emod_nonneg _ (by omega)
    have b2 : c / 3 % ((ls'.length : Int) + 1) < (ls'.length : Int) + 1 := Int.emod_lt_of_pos _ (by omega)
    refine ⟨fun σ' H3 => σ' = [some (.ref a), some (.ref z), some (.int c), some (.ref p), none] ∧ ∃ vs3, Same H H3 ∧ Acc H p H3 ((ins c ls').map nums) vs3, fun σ' H3 ⟨e3, vs3, s3, ac3⟩ => ⟨_, ?_, ins c ls', vs3, e3, s3, ac3, by rw [ins_length]; omega, rfl, ?_⟩, ?_⟩
    · rw [ins_length]; omega
    · rw [ins_length, ← ep]
      rw [show 3 - ls'.length = (3 - (ls'.length + 1)) + 1 by omega]
      rfl
    walk_at "go"
    refine ⟨tyL ac2.get, ?_⟩
    walk_at "go"
    refine i_len (.inl (SqL.of ac2.get)) ?_
    rw [← lv]
    walk_at "go"
    refine ⟨by decide, fun t1 ht1 => ?_⟩
    walk_at "go"
    refine .inr ⟨t1, 9, [.int 0], rfl, rfl, upd_same, by decide, by decide, by decide, fun t ht => ?_⟩
    have sH := (same_upd ht1 (.lst [V.int 0])).trans (same_upd ht (.lst (List.replicate (9 : Int).toNat [V.int 0]).flatten))
    have nt : New H2 (upd (upd H2 t1 (.lst [V.int 0])) t (.lst (List.replicate (9 : Int).toNat [V.int 0]).flatten)) (nums zeros9) (.ref t) := New.ints_iff.mpr ⟨t, rfl, (same_upd ht1 _).free ht, by rw [upd_same]; rfl⟩
    have ac3 := Acc.put (i := (c / 3 % ((ls'.length : Int) + 1)).toNat) (Nat.le_refl _) ac2 s2.fr sH nt
    walk_at "go"
    have ei : (ins c ls').map nums = (ls'.map nums).take (c / 3 % ((ls'.length : Int) + 1)).toNat ++ nums zeros9 :: (ls'.map nums).drop (c / 3 % ((ls'.length : Int) + 1)).toNat := by
      simp only [ins, List.map_append, List.map_cons, List.map_take, List.map_drop]
    rw [← ei] at ac3
    exact ⟨p, vs', _, .ref t, rfl, rfl, sH _ _ ac2.get, b1, by omega, by omega, rfl, _, away (s2.trans sH), ac3⟩
  · have e' : ls'.length = 3 := by have := of_decide_eq_false e; omega
    rw [e'] at ep
    refine q H2 s2 ?_
    rw [← ep]
    exact ac2.new p0
theorem fn_l_hurt_lines {f : Addr} {fd : FuncData} (B : Bl K mg) {C : Nat → Addr} (Z : Zt K mg C) (G_l_hurt_line : Fn P w K mg base "_law_hurt_line" ["line", "zero", "cell"] 1 (sp_l_hurt_line K)) (F : Fun K "_law_hurt_lines" "_law_hurt_lines" s_l_hurt_lines f fd) (m : mg "_law_hurt_lines" = some (.ref f)) : Fn P w K mg base "_law_hurt_lines" ["lines", "zero", "cell"] 2 (sp_l_hurt_lines K) := by
  refine Fn.of (k := 1) F sc_l_hurt_lines m (fun _ _ _ _ _ _ us hl => match us, hl with | [_, _, _], _ => rfl) (fun vs H Q E h => ?_) (fun cdv A outer s H vs Q E hr h => ?_)
  · first
    | (obtain ⟨rfl, _⟩ := h; rfl)
    | (obtain ⟨_, rfl, _⟩ := h; rfl)
    | (obtain ⟨_, _, rfl, _⟩ := h; rfl)
    | (obtain ⟨_, _, _, rfl, _⟩ := h; rfl)
    | (obtain ⟨_, _, _, _, rfl, _⟩ := h; rfl)
    | (obtain ⟨_, _, _, _, _, rfl, _⟩ := h; rfl)
    | (obtain ⟨_, _, _, _, _, _, rfl, _⟩ := h; rfl)
    | (obtain ⟨_, _, _, _, _, _, _, rfl, _⟩ := h; rfl)
    | (obtain ⟨_, _, _, _, _, _, _, _, rfl, _⟩ := h; rfl)
    | (obtain ⟨_, _, _, _, _, _, _, _, _, rfl, _⟩ := h; rfl)
    | (obtain ⟨_, _, _, _, _, _, _, _, _, _, rfl, _⟩ := h; rfl)
    | (obtain ⟨_, _, _, _, _, _, _, _, _, _, _, rfl, _⟩ := h; rfl)
    | (obtain ⟨_, _, _, _, _, _, _, _, _, _, _, _, rfl, _⟩ := h; rfl)
    | (obtain ⟨_, _, _, _, _, _, _, _, _, _, _, _, _, rfl, _⟩ := h; rfl)
    | (obtain ⟨_, _, _, _, _, _, _, _, _, _, _, _, _, _, rfl, _⟩ := h; rfl)
    | (obtain ⟨_, _, _, _, _, _, _, _, _, _, _, _, _, _, _, rfl, _⟩ := h; rfl)
    | (obtain ⟨_, _, _, _, _, _, _, _, _, _, _, _, _, _, _, _, rfl, _⟩ := h; rfl)
  obtain ⟨a, z, ls, zero, c, rfl, hA, hZ, l2, h9, hz8, hz, q⟩ := h
  refine ⟨_, (pss_cons (ps_setComp (i := 3) sc_l_hurt_lines.nd rfl rfl rfl (CompOk.mk' (sc0 := defScope s_l_hurt_lines) (N := ["lines", "zero", "cell", "found", "at"]) (N' := ["lines", "zero", "cell", "found", "at", "line"]) (ms := [false, false, false, false, false, true]) rfl (by decide +kernel) (by decide +kernel) (by decide +kernel) rfl (by decide +kernel)) (k_ilist K (pv 0)) (fun _ _ _ _ _ => (pg_name (i := 5) (show List.Nodup (["lines", "zero", "cell", "found", "at", "line"] : List Str) by decide +kernel) rfl (Or.inl rfl))) (fun _ _ _ _ _ => pifs_nil) (fun _ _ _ _ _ => (pe_callTy (k_list K) rfl B.list L2.boot_list (pa_name (pv 5) pa_nil))))
      (pss_cons (ps_if (PW.pt (pw_or (pt_cmpR (k_eq K hr) (pe_op op_mod (pv 2) pe_int) pe_int (nomark _)) (pw_or1 (pt_cmpR (k_eq K hr) (pe_callB (k_len K) rfl B.len L2.boot_len (pa_name (pv 3) pa_nil)) pe_int (nomark _))))) (pss_cons (ps_while PassesOwn.never (pt_cmpR op_lt (pe_callB (k_len K) rfl B.len L2.boot_len (pa_name (pv 3) pa_nil)) pe_int (nomark _)) (pss_one (ps_expr (pe_bm PySem.F.plainAttrs_list PySem.F.slot_list_insert PySem.F.type_list_insert mt_insert (pv 3) (pa_bin (pe_op op_mod (pe_op op_fdiv (pv 2) pe_int) (pe_op (k_plus K) (pe_callB (k_len K) rfl B.len L2.boot_len (pa_name (pv 3) pa_nil)) pe_int)) (pa_bin (pe_op op_times (pe_lst (pa_const pe_int pa_nil)) pe_int) pa_nil))))))
      (pss_one (ps_ret (pv 3)))) pss_nil)
      (pss_cons (ps_set (i := 4) sc_l_hurt_lines.nd rfl (Or.inl rfl) (pe_op op_mod (pe_op op_fdiv (pv 2) pe_int) (pe_callB (k_len K) rfl B.len L2.boot_len (pa_name (pv 3) pa_nil))))
      (pss_cons (ps_asg (pe_fn G_l_hurt_line hr rfl (pa_sub (pe_ix (k_ix K) (pv 3) (pv 4) (fun _ _ => rfl)) (pa_name (pv 1) (pa_bin (pe_op op_fdiv (pv 2) pe_int) pa_nil)))) (pg_sub (pv 3) (pv 4) set_list))
      (pss_one (ps_ret (pv 3))))))), ?_⟩
  unfold linesV Rep at hA
  obtain ⟨a', xs, e, hA, hx⟩ := hA
  cases e
  have lx := hx.length
  rw [List.length_map] at lx
  walk_at "go"
  refine ⟨a, rfl, ⟨_, hA⟩, ?_⟩
  refine comp_gen (goes_list hA) (ls.map nums) (by rw [List.length_map]; omega) (small_le (by omega)) (fun j x' d H4 R hj hd s4 hx' hR => ?_) (fun v H1 s1 n1 => ?_)
  · obtain ⟨d2, hd2, hrx⟩ := Reps.get' hx hx'
    rw [hd2] at hd; cases hd
    rw [List.getElem?_map] at hd2
    obtain ⟨l, hl, rfl⟩ := Option.map_eq_some_iff.mp hd2
    obtain ⟨xa, rfl, hxa⟩ := rep_ints.mp (Rep.same s4 _ hrx)
    walk_at "go"
    refine i_listof (.inl hxa) fun p hp => ?_
    exact hR _ _ (same_upd hp _) (New.ints_iff.mpr ⟨p, rfl, hp, upd_same⟩)
  obtain ⟨p, vs, rfl, p0, ac⟩ := New.acc n1
  have lv := ac.len
  rw [List.length_map] at lv
  have away : ∀ {H2 : Hp} {o : HO}, Same H H2 → Same H (upd H2 p o) := fun s b u e => by rw [upd_ne (ne_of_none e p0)]; exact s _ _ e
  unfold hurtLines at q
  walk_at "go"
  cases hb : decide (c % 3 = 0) with
  | true =>
    rw [if_pos (.inl (of_decide_eq_true hb))] at q
    walk_at "go"
    refine hurt_loop (vs := vs) p0 l2 s1 ac (fun H2 s2 n2 => ?_)
    walk_at "go"
    exact q _ _ s2 n2
  | false =>
    walk_at "go"
    refine i_len (.inl (SqL.of ac.get)) ?_
    rw [← lv]
    walk_at "go"
    cases hl : decide (((ls.length : Nat) : Int) = 0) with
    | true =>
      rw [if_pos (.inr (by have := of_decide_eq_true hl; omega))] at q
      walk_at "go"
      refine hurt_loop (vs := vs) p0 l2 s1 ac (fun H2 s2 n2 => ?_)
      walk_at "go"
      exact q _ _ s2 n2
    | false =>
      have hl' : ¬ ls.length = 0 := by have := of_decide_eq_false hl; omega
      rw [if_neg (fun o => o.elim (of_decide_eq_false hb) hl')] at q
      have b1 : 0 ≤ c / 3 % (ls.length : Int) := Int.emod_nonneg _ (by omega)
      have b2 : c / 3 % (ls.length : Int) < (ls.length : Int) := Int.emod_lt_of_pos _ (by omega)
      have hlt : (c / 3 % (ls.length : Int)).toNat < ls.length := by omega
      walk_at "go"
      refine i_len (.inl (SqL.of ac.get)) ?_
      rw [← lv]
      walk_at "go"
      obtain ⟨x, hx1, hx2⟩ := (ac.item (K := K)).get (i := (c / 3 % (ls.length : Int)).toNat) (d := nums (ls.getD (c / 3 % (ls.length : Int)).toNat [])) (by rw [List.getElem?_map, List.getD_eq_getElem?_getD, List.getElem?_eq_getElem hlt]; rfl)
      obtain ⟨xa, rfl, hxa⟩ := rep_ints.mp hx2
      have ea : atI vs (c / 3 % (ls.length : Int)) = some (.ref xa) := by
        have := atI_nat hx1
        rwa [show (((c / 3 % (ls.length : Int)).toNat : Nat) : Int) = c / 3 % (ls.length : Int) by omega] at this
      refine i_ixL (SqL.of ac.get) ea ?_
      walk_at "go"
      refine ⟨xa, z, _, zero, _, rfl, hxa, s1.seq hZ, ?_, hz8, hz, fun v H2 s2 n2 => ?_⟩
      · rw [List.getD_eq_getElem?_getD, List.getElem?_eq_getElem hlt]
        exact h9 _ (List.getElem_mem hlt)
      walk_at "go"
      refine i_setL (s2 _ _ ac.get) (j := (c / 3 % (ls.length : Int)).toNat) (by unfold ixN; rw [if_pos (by omega), if_pos (by omega)]) ?_
      walk_at "go"
      have ac3 := Acc.put (i := (c / 3 % (ls.length : Int)).toNat) (k := (c / 3 % (ls.length : Int)).toNat + 1) (Nat.le_succ _) ac s1.fr s2 n2
      refine q _ _ (away (s1.trans s2)) ?_
      rw [List.set_eq_take_append_cons_drop, if_pos (by omega)]
      have e1 := ac3.new p0
      unfold linesV
      rw [List.map_set, List.set_eq_take_append_cons_drop, if_pos (by rw [List.length_map]; omega)]
      exact e1
/-! ### lists by their items -/
def R2 {α : Type} (P : α → V → Prop) (as : List α) (xs : List V) : Prop := as.length = xs.length ∧ ∀ (i : Nat) a x, as[i]? = some a → xs[i]? = some x → P a x
theorem R2.nil {α : Type} {P : α → V → Prop} : R2 P [] [] := ⟨rfl, fun i a x e _ => by simp at e⟩
theorem R2.mono {α : Type} {P P' : α → V → Prop} {as : List α} {xs : List V} (h : R2 P as xs) (m : ∀ a x, P a x → P' a x) : R2 P' as xs := ⟨h.1, fun i a x e1 e2 => m a x (h.2 i a x e1 e2)⟩
theorem R2.cons {α : Type} {P : α → V → Prop} {a : α} {x : V} {as : List α} {xs : List V} (p : P a x) (h : R2 P as xs) : R2 P (a :: as) (x :: xs) := ⟨by simp [h.1], fun i b y e1 e2 => by
  cases i with
  | zero => simp at e1 e2; subst e1; subst e2; exact p
  | succ i => exact h.2 i b y (by simpa using e1) (by simpa using e2)⟩
theorem R2.append {α : Type} {P : α → V → Prop} {as bs : List α} {xs ys : List V} (h : R2 P as xs) (k : R2 P bs ys) : R2 P (as ++ bs) (xs ++ ys) := ⟨by simp [h.1, k.1], fun i a x e1 e2 => by
  rw [List.getElem?_append] at e1 e2
  rw [← h.1] at e2
  split at e1
  · rename_i z; rw [if_pos z] at e2; exact h.2 i a x e1 e2
  · rename_i z; rw [if_neg z] at e2; exact k.2 _ a x e1 e2⟩
theorem R2.take {α : Type} {P : α → V → Prop} {as : List α} {xs : List V} (h : R2 P as xs) (k : Nat) : R2 P (as.take k) (xs.take k) := ⟨by simp [h.1], fun i a x e1 e2 => by
  rw [List.getElem?_take] at e1 e2
  split at e1
  · rename_i z; rw [if_pos z] at e2; exact h.2 i a x e1 e2
  · cases e1⟩
theorem R2.drop {α : Type} {P : α → V → Prop} {as : List α} {xs : List V} (h : R2 P as xs) (k : Nat) : R2 P (as.drop k) (xs.drop k) := ⟨by simp [h.1], fun i a x e1 e2 => by
  rw [List.getElem?_drop] at e1 e2
  exact h.2 _ a x e1 e2⟩
theorem R2.get {α : Type} {P : α → V → Prop} {as : List α} {xs : List V} (h : R2 P as xs) {i : Nat} (hi : i < as.length) : ∃ x, xs[i]? = some x ∧ P (as[i]) x := by
  have hj : i < xs.length := by rw [← h.1]; exact hi
  exact ⟨xs[i], by simp, h.2 i _ _ (by simp) (by simp)⟩
theorem R2.rep {α : Type} {P : α → V → Prop} {a : α} {x : V} (p : P a x) : ∀ n : Nat, R2 P (List.replicate n a) (List.replicate n x)
  | 0 => R2.nil
  | n + 1 => by rw [List.replicate_succ, List.replicate_succ]; exact R2.cons p (R2.rep p n)
def DeedsAt (H : Hp) : List Dd → List V → Prop := R2 fun d x => DeedRep H (toD d) x
def NotesAt (K : PySem.W.Frag) (H : Hp) : List (List (List Int)) → List V → Prop := R2 fun ls x => Rep K H (linesV ls) x
def PartsAt (K : PySem.W.Frag) (H : Hp) (v : V) (needs leaves : List (List Int)) (deeds : List Dd) (notes : List (List (List Int))) : Prop := ∃ (pa y1 y2 a3 a4 : Addr) (dvs nvs : List V), v = .ref pa ∧ H pa = some (.lst [.ref y1, .ref y2, .ref a3, .ref a4]) ∧ Rep K H (linesV needs) (.ref y1) ∧ Rep K H (linesV leaves) (.ref y2) ∧ H a3 = some (.lst dvs) ∧ H a4 = some (.lst nvs) ∧ DeedsAt H deeds dvs ∧ NotesAt K H notes nvs
theorem DeedsAt.same {H H' : Hp} {ds : List Dd} {xs : List V} (e : Same H H') (h : DeedsAt H ds xs) : DeedsAt H' ds xs := R2.mono h fun _ _ z => z.sq e.sq
theorem NotesAt.same {K : PySem.W.Frag} {H H' : Hp} {ds : List (List (List Int))} {xs : List V} (e : Same H H') (h : NotesAt K H ds xs) : NotesAt K H' ds xs := R2.mono h fun _ _ z => Rep.same e _ z
theorem PartsAt.same {K : PySem.W.Frag} {H H' : Hp} {v : V} {needs leaves : List (List Int)} {deeds : List Dd} {notes : List (List (List Int))} (e : Same H H') (h : PartsAt K H v needs leaves deeds notes) : PartsAt K H' v needs leaves deeds notes := by
  obtain ⟨pa, y1, y2, a3, a4, dvs, nvs, rfl, h1, h2, h3, h4, h5, h6, h7⟩ := h
  exact ⟨pa, y1, y2, a3, a4, dvs, nvs, rfl, e _ _ h1, Rep.same e _ h2, Rep.same e _ h3, e _ _ h4, e _ _ h5, h6.same e, h7.same e⟩
def sp_l_hurt (K : PySem.W.Frag) : Sp := fun vs H Q _ => ∃ (v : V) (way c : Int) (needs leaves : List (List Int)) (deeds : List Dd) (notes : List (List (List Int))), vs = [v, .int way, .int c] ∧ PartsAt K H v needs leaves deeds notes ∧ rightD needs leaves deeds notes = true ∧ (∀ l ∈ needs, l.length = 9) ∧ (∀ l ∈ leaves, l.length = 9) ∧ (∀ d ∈ deeds, line9 d) ∧ (∀ ls ∈ notes, ∀ l ∈ ls, l.length = 9) ∧
  ∀ v' H' needs' leaves' deeds' notes', Same H H' → PartsAt K H' v' needs' leaves' deeds' notes' → Fine needs' leaves' deeds' notes' → rightD needs' leaves' deeds' notes' = false → Q v' H'
theorem mid_mem {α : Type} {as bs : List α} {a : α} : a ∈ (as ++ [a]) ++ bs := List.mem_append_left _ (List.mem_append_right _ (List.mem_singleton.mpr rfl))
theorem in_mid {α : Type} {l : List α} {i : Nat} {a b : α} (m : b ∈ (l.take i ++ [a]) ++ l.drop (i + 1)) : b ∈ l ∨ b = a := by
  rcases List.mem_append.mp m with m | m
  · rcases List.mem_append.mp m with m | m
    · exact .inl (List.mem_of_mem_take m)
    · exact .inr (List.mem_singleton.mp m)
  · exact .inl (List.mem_of_mem_drop m)
theorem mid_len {α : Type} {l : List α} {i : Nat} {a : α} (h : i < l.length) : ((l.take i ++ [a]) ++ l.drop (i + 1)).length = l.length := by
  simp [List.length_append, List.length_take, List.length_drop]; omega
def wordD : Dd → Str
  | .set _ _ => "set"
  | .part _ _ _ => "part"
  | .draw _ _ _ => "draw"
  | .turn _ _ => "turn"
  | .hold _ => "hold"
  | .call _ _ _ _ _ => "call"
def kf7 (deeds : List Dd) (i : Nat) : Bool := match deeds[i]? with
  | some d => inV (.str (wordD d)) [.str "call", .str "draw"]
  | none => false
theorem word_of {H : Hp} {d : Dd} {x : V} (h : DeedRep H (toD d) x) : ∃ t xs, x = .ref t ∧ H t = some (.tup (.str (wordD d) :: xs)) := by
  cases d <;> (obtain ⟨t, xs, rfl, h1, px⟩ := deed_down h; obtain ⟨x0, r, rfl, e0, px⟩ := parts_cons px; cases part_str e0; exact ⟨t, r, rfl, h1⟩)
theorem some_ints {H H' : Hp} {l : List Nat} {v : V} (h : New H H' (.lst (l.map fun i : Nat => D.int i)) v) : ∃ a, v = .ref a ∧ H a = none ∧ H' a = some (.lst ((l.map fun i : Nat => (i : Int)).map V.int)) := by
  refine New.ints_iff.mp ?_
  show New H H' (.lst ((l.map fun i : Nat => (i : Int)).map D.int)) v
  rw [List.map_map]; exact h
theorem nines : (List.replicate (9 : Int).toNat [V.int 0]).flatten = zeros9.map V.int := rfl
theorem fn_l_hurt {f : Addr} {fd : FuncData} (B : Bl K mg) {C : Nat → Addr} (Z : Zt K mg C) (G_l_hurt_deed : Fn P w K mg base "_law_hurt_deed" ["deed", "count", "cell"] 2 (sp_l_hurt_deed K)) (G_l_hurt_lines : Fn P w K mg base "_law_hurt_lines" ["lines", "zero", "cell"] 2 (sp_l_hurt_lines K)) (F : Fun K "_law_hurt" "_law_hurt" s_l_hurt f fd) (m : mg "_law_hurt" = some (.ref f)) : Fn P w K mg base "_law_hurt" ["parts", "way", "cell"] 3 (sp_l_hurt K) := by
  refine Fn.of (k := 2) F sc_l_hurt m (fun _ _ _ _ _ _ us hl => match us, hl with | [_, _, _], _ => rfl) (fun vs H Q E h => ?_) (fun cdv A outer s H vs Q E hr h => ?_)
  · first
    | (obtain ⟨rfl, _⟩ := h; rfl)
    | (obtain ⟨_, rfl, _⟩ := h; rfl)
    | (obtain ⟨_, _, rfl, _⟩ := h; rfl)
    | (obtain ⟨_, _, _, rfl, _⟩ := h; rfl)
    | (obtain ⟨_, _, _, _, rfl, _⟩ := h; rfl)
    | (obtain ⟨_, _, _, _, _, rfl, _⟩ := h; rfl)
    | (obtain ⟨_, _, _, _, _, _, rfl, _⟩ := h; rfl)
    | (obtain ⟨_, _, _, _, _, _, _, rfl, _⟩ := h; rfl)
    | (obtain ⟨_, _, _, _, _, _, _, _, rfl, _⟩ := h; rfl)
    | (obtain ⟨_, _, _, _, _, _, _, _, _, rfl, _⟩ := h; rfl)
    | (obtain ⟨_, _, _, _, _, _, _, _, _, _, rfl, _⟩ := h; rfl)
    | (obtain ⟨_, _, _, _, _, _, _, _, _, _, _, rfl, _⟩ := h; rfl)
    | (obtain ⟨_, _, _, _, _, _, _, _, _, _, _, _, rfl, _⟩ := h; rfl)
    | (obtain ⟨_, _, _, _, _, _, _, _, _, _, _, _, _, rfl, _⟩ := h; rfl)
    | (obtain ⟨_, _, _, _, _, _, _, _, _, _, _, _, _, _, rfl, _⟩ := h; rfl)
    | (obtain ⟨_, _, _, _, _, _, _, _, _, _, _, _, _, _, _, rfl, _⟩ := h; rfl)
    | (obtain ⟨_, _, _, _, _, _, _, _, _, _, _, _, _, _, _, _, rfl, _⟩ := h; rfl)
  obtain ⟨v, way, c, needs, leaves, deeds, notes, rfl, hP, hr1, n9, l9, d9, o9, q⟩ := h
  have hF := fine_right n9 l9 d9 o9 hr1
  obtain ⟨ok1, ok2, okc, okd, okn, oko⟩ := right_parts hr1
  obtain ⟨pa, y1, y2, a3, a4, dvs, nvs, rfl, hpa, r1, r2, h3, h4, dr, nr⟩ := hP
  have ldv := dr.1
  have lnv := nr.1
  have n2 := (linesOk_ok n9 ok1).1
  have l2 := (linesOk_ok l9 ok2).1
  refine ⟨_, (QSs.run (qss_cons (QS.mk (ps_asg (pv 0) (k_gtupL K (n := 4) rfl (pgs_cons (pg_name (i := 3) sc_l_hurt.nd rfl (Or.inl rfl)) (pgs_cons (pg_name (i := 4) sc_l_hurt.nd rfl (Or.inl rfl)) (pgs_cons (pg_name (i := 5) sc_l_hurt.nd rfl (Or.inl rfl)) (pgs_cons (pg_name (i := 6) sc_l_hurt.nd rfl (Or.inl rfl)) pgs_nil)))))))
      (qss_cons (QS.mk (ps_set (i := 7) sc_l_hurt.nd rfl (Or.inl rfl) (pe_callB (k_len K) rfl B.len L2.boot_len (pa_name (pv 5) pa_nil))))
      (qss_cons (QS.mk (ps_set (i := 8) sc_l_hurt.nd rfl (Or.inl rfl) (pe_op op_mod (pv 2) (pv 7))))
      (qss_cons (QS.mk (ps_if (pt_cmpR (k_eq K hr) (pv 1) pe_int (nomark _)) (pss_one (ps_ret (pe_lst (pa_call (pe_fn G_l_hurt_lines hr rfl (pa_name (pv 3) (pa_lst (pe_lst (pa_const pe_int (pa_const pe_int (pa_const pe_int (pa_const pe_int (pa_const pe_int (pa_const pe_int pa_nil))))))) (pa_bin (pe_op op_fdiv (pv 2) pe_int) pa_nil)))) (pa_name (pv 4) (pa_name (pv 5) (pa_name (pv 6) pa_nil))))))) pss_nil))
      (qss_cons (QS.mk (ps_if (pt_cmpR (k_eq K hr) (pv 1) pe_int (nomark _)) (pss_one (ps_ret (pe_lst (pa_name (pv 3) (pa_call (pe_fn G_l_hurt_lines hr rfl (pa_name (pv 4) (pa_lst (pe_lst (pa_const pe_int (pa_const pe_int (pa_const pe_int (pa_const pe_int pa_nil))))) (pa_bin (pe_op op_fdiv (pv 2) pe_int) pa_nil)))) (pa_name (pv 5) (pa_name (pv 6) pa_nil))))))) pss_nil))
      (qss_cons (QS.mk (ps_if (pt_cmpR (k_eq K hr) (pv 1) pe_int (nomark _)) (pss_cons (ps_set (i := 9) sc_l_hurt.nd rfl (Or.inl rfl) (pe_fn G_l_hurt_lines hr rfl (pa_sub (pe_ix (k_ix K) (pv 6) (pv 8) (fun _ _ => rfl)) (pa_lst (pe_lst (pa_const pe_int (pa_const pe_int pa_nil))) (pa_bin (pe_op op_fdiv (pv 2) pe_int) pa_nil)))))
      (pss_one (ps_ret (pe_lst (pa_name (pv 3) (pa_name (pv 4) (pa_name (pv 5) (pa_bin (pe_op (k_plus K) (pe_op (k_plus K) (pe_slice (k_sl K) (pv 6) po_none (po_some (pv 8))) (pe_lst (pa_name (pv 9) pa_nil))) (pe_slice (k_sl K) (pv 6) (po_some (pe_op (k_plus K) (pv 8) pe_int)) po_none)) pa_nil)))))))) pss_nil))
      (qss_cons (QS.mk (ps_if (pt_cmpR (k_eq K hr) (pv 1) pe_int (nomark _)) (pss_cons (ps_set (i := 10) sc_l_hurt.nd rfl (Or.inl rfl) (pe_ix (k_ix K) (pe_lst (pa_sub (pe_slice (k_sl K) (pv 6) po_none (po_some (pe_op op_sub (pv 7) pe_int))) (pa_bin (pe_op (k_plus K) (pv 6) (pe_lst (pa_lst (pe_lst pa_nil) pa_nil))) (pa_lst (pe_lst pa_nil) pa_nil)))) (pe_op op_mod (pv 2) pe_int) (fun _ _ => rfl)))
      (pss_one (ps_ret (pe_lst (pa_name (pv 3) (pa_name (pv 4) (pa_name (pv 5) (pa_name (pv 10) pa_nil)))))))) pss_nil))
      (qss_cons (qs_if (pt_cmpR (k_eq K hr) (pv 1) pe_int (nomark _)) (qss_one (qs_ret (q_lst (qa_name (QE.mk (pv 3)) (qa_name (QE.mk (pv 4)) (qa_sub (q_ix (k_ix K) (q_lst (qa_lst (q_lst qa_nil) (qa_bin (q_op op_times (q_lst (qa_tup (q_tup (qa_const (QE.mk pe_str) (qa_bin (q_op op_times (q_lst (qa_const (QE.mk pe_int) qa_nil)) (QE.mk pe_int)) qa_nil))) qa_nil)) (QE.mk pe_int)) qa_nil))) (q_op op_mod (QE.mk (pv 2)) (QE.mk pe_int)) (fun _ _ => rfl)) (qa_sub (q_ix (k_ix K) (q_lst (qa_lst (q_lst qa_nil) (qa_bin (q_op op_times (q_lst (qa_lst (q_lst qa_nil) qa_nil)) (QE.mk pe_int)) qa_nil))) (q_op op_mod (QE.mk (pv 2)) (QE.mk pe_int)) (fun _ _ => rfl)) qa_nil))))))) qss_nil)
      (qss_cons (QS.mk (ps_setComp (i := 11) sc_l_hurt.nd rfl rfl rfl (CompOk.mk' (sc0 := defScope s_l_hurt) (N := ["parts", "way", "cell", "needs", "leaves", "deeds", "notes", "count", "at", "spoilt", "many", "some"]) (N' := ["parts", "way", "cell", "needs", "leaves", "deeds", "notes", "count", "at", "spoilt", "many", "some", "k", "deed"]) (ms := [false, false, false, false, false, false, false, false, false, false, false, false, true, true]) rfl (by decide +kernel) (by decide +kernel) (by decide +kernel) rfl (by decide +kernel)) (k_ienum K rfl B.enumerate (pa_name (pv 5) pa_nil)) (fun _ _ _ _ _ => (k_gtup K (n := 2) rfl (pgs_cons (pg_name (i := 12) (show List.Nodup (["parts", "way", "cell", "needs", "leaves", "deeds", "notes", "count", "at", "spoilt", "many", "some", "k", "deed"] : List Str) by decide +kernel) rfl (Or.inl rfl)) (pgs_cons (pg_name (i := 13) (show List.Nodup (["parts", "way", "cell", "needs", "leaves", "deeds", "notes", "count", "at", "spoilt", "many", "some", "k", "deed"] : List Str) by decide +kernel) rfl (Or.inl rfl)) pgs_nil)))) (fun _ _ _ _ _ => (pifs_one (pt_cmpR (k_in K) (pe_ix (k_ix K) (pv 13) pe_int (fun _ _ => rfl)) (pe_tup (pa_const pe_str (pa_const pe_str pa_nil))) rfl))) (fun _ _ _ _ _ => (pv 12))))
      (qss_cons (QS.mk (ps_if (PW.pt (pw_and (pt_cmpR op_gt (pe_callB (k_len K) rfl B.len L2.boot_len (pa_name (pv 11) pa_nil)) pe_int (nomark _)) (pw_and1 (pt_cmpR op_gt (pv 1) pe_int (nomark _))))) (pss_one (ps_set (i := 8) sc_l_hurt.nd rfl (Or.inl rfl) (pe_ix (k_ix K) (pv 11) (pe_op op_mod (pv 2) (pe_callB (k_len K) rfl B.len L2.boot_len (pa_name (pv 11) pa_nil))) (fun _ _ => rfl)))) pss_nil))
      (qss_cons (QS.mk (ps_set (i := 9) sc_l_hurt.nd rfl (Or.inl rfl) (pe_fn G_l_hurt_deed hr rfl (pa_sub (pe_ix (k_ix K) (pv 5) (pv 8) (fun _ _ => rfl)) (pa_name (pv 7) (pa_bin (pe_op op_fdiv (pv 2) pe_int) pa_nil))))))
      (qss_one (QS.mk (ps_ret (pe_lst (pa_name (pv 3) (pa_name (pv 4) (pa_bin (pe_op (k_plus K) (pe_op (k_plus K) (pe_slice (k_sl K) (pv 5) po_none (po_some (pv 8))) (pe_lst (pa_name (pv 9) pa_nil))) (pe_slice (k_sl K) (pv 5) (po_some (pe_op (k_plus K) (pv 8) pe_int)) po_none)) (pa_name (pv 6) pa_nil)))))))))))))))))))), ?_⟩
  with_reducible refine i_seq ?_
  walk_at "gs"
  refine ⟨pa, _, rfl, SqL.of hpa, rfl, ⟨_, _, rfl, ?_⟩⟩
  refine ⟨_, _, rfl, ?_⟩
  refine ⟨_, _, rfl, ?_⟩
  refine ⟨_, _, rfl, ?_⟩
  refine ⟨rfl, ?_⟩
  with_reducible refine i_seq ?_
  walk_at "gs"
  refine i_len (.inl (SqL.of h3)) ?_
  walk_at "gs"
  with_reducible refine i_seq ?_
  rw [← ldv]
  walk_at "gs"
  have at0 := Int.emod_nonneg c (show (deeds.length : Int) ≠ 0 by omega)
  have at1 := Int.emod_lt_of_pos c (show (0 : Int) < (deeds.length : Int) by omega)
  by_cases e0 : way = 0
  · with_reducible refine i_take (fun Q2 q2 => ?_) (fun NX => ?_)
    · walk_at "gs"
      rw [decide_eq_true e0]
      exact q2
    walk_at "gs"
    refine ⟨small_le (by simp), fun z hz => ?_⟩
    have s0 := same_upd hz (.lst [V.int 0, .int 1, .int 2, .int 3, .int 6, .int 7])
    walk_at "gs"
    refine ⟨y1, z, needs, [0, 1, 2, 3, 6, 7], c / 8, rfl, Rep.same s0 _ r1, SqL.of upd_same, n2, n9, by decide, zero6, fun v H1 s1 m1 => ?_⟩
    have s01 := s0.trans s1
    have rv := New.rep (K := K) m1
    obtain ⟨b, rfl⟩ : ∃ b, v = .ref b := by obtain ⟨b, _, e, _⟩ := New.news m1; exact ⟨b, e⟩
    walk_at "gs"
    refine ⟨small_le (by simp), fun pb hpb => ?_⟩
    have s2 := same_upd hpb (.lst [V.ref b, .ref y2, .ref a3, .ref a4])
    have s02 := s01.trans s2
    exact q _ _ _ _ _ _ s02 ⟨pb, b, y2, a3, a4, dvs, nvs, rfl, upd_same, Rep.same s2 _ rv, Rep.same s02 _ r2, s02 _ _ h3, s02 _ _ h4, DeedsAt.same s02 dr, NotesAt.same s02 nr⟩ { hF with n := hurtLines_len n2, kn := hurtLines_okL hF.kn } (bad_needs (hurtLines_bad n2 n9 zero6 in6))
  with_reducible refine i_skip (fun Q2 q2 => ?_) ?_
  · walk_at "gs"
    rw [decide_eq_false e0]
    exact q2
  by_cases e1 : way = 1
  · with_reducible refine i_take (fun Q2 q2 => ?_) (fun NX => ?_)
    · walk_at "gs"
      rw [decide_eq_true e1]
      exact q2
    walk_at "gs"
    refine ⟨small_le (by simp), fun z hz => ?_⟩
    have s0 := same_upd hz (.lst [V.int 0, .int 1, .int 2, .int 3])
    walk_at "gs"
    refine ⟨y2, z, leaves, [0, 1, 2, 3], c / 8, rfl, Rep.same s0 _ r2, SqL.of upd_same, l2, l9, by decide, zero4, fun v H1 s1 m1 => ?_⟩
    have s01 := s0.trans s1
    have rv := New.rep (K := K) m1
    obtain ⟨b, rfl⟩ : ∃ b, v = .ref b := by obtain ⟨b, _, e, _⟩ := New.news m1; exact ⟨b, e⟩
    walk_at "gs"
    refine ⟨small_le (by simp), fun pb hpb => ?_⟩
    have s2 := same_upd hpb (.lst [V.ref y1, .ref b, .ref a3, .ref a4])
    have s02 := s01.trans s2
    exact q _ _ _ _ _ _ s02 ⟨pb, y1, b, a3, a4, dvs, nvs, rfl, upd_same, Rep.same s02 _ r1, Rep.same s2 _ rv, s02 _ _ h3, s02 _ _ h4, DeedsAt.same s02 dr, NotesAt.same s02 nr⟩ { hF with l := hurtLines_len l2, kl := hurtLines_okL hF.kl } (bad_leaves (hurtLines_bad l2 l9 zero4 in4))
  with_reducible refine i_skip (fun Q2 q2 => ?_) ?_
  · walk_at "gs"
    rw [decide_eq_false e1]
    exact q2
  by_cases e2 : way = 2
  · with_reducible refine i_take (fun Q2 q2 => ?_) (fun NX => ?_)
    · walk_at "gs"
      rw [decide_eq_true e2]
      exact q2
    have ltn : (c % (deeds.length : Int)).toNat < notes.length := by rw [okn]; omega
    obtain ⟨x, hx, rx⟩ := R2.get nr ltn
    have lo2 := linesOk_ok (o9 _ (List.getElem_mem ltn)) (oko _ (List.getElem_mem ltn))
    with_reducible refine i_seq ?_
    walk_at "gs"
    refine i_ixL (SqL.of h4) (atI_of at0 hx) ?_
    obtain ⟨xa, rfl⟩ : ∃ b, x = .ref b := by unfold linesV Rep at rx; obtain ⟨a, _, e, _⟩ := rx; exact ⟨a, e⟩
    walk_at "gs"
    refine ⟨small_le (by simp), fun z hz => ?_⟩
    have s0 := same_upd hz (.lst [V.int 6, .int 7])
    walk_at "gs"
    refine ⟨xa, z, _, [6, 7], c / 8, rfl, Rep.same s0 _ rx, SqL.of upd_same, lo2.1, fun l hl => o9 _ (List.getElem_mem ltn) l hl, by decide, zero2, fun v H1 s1 m1 => ?_⟩
    have s01 := s0.trans s1
    have rv := New.rep (K := K) m1
    obtain ⟨b, rfl⟩ : ∃ b, v = .ref b := by obtain ⟨b, _, e, _⟩ := New.news m1; exact ⟨b, e⟩
    have bad := hurtLines_bad (c := c / 8) lo2.1 (fun l hl => o9 _ (List.getElem_mem ltn) l hl) zero2 in2
    have okb := hurtLines_okL (zero := [6, 7]) (c := c / 8) lo2.2
    have lnb := hurtLines_len (zero := [6, 7]) (c := c / 8) lo2.1
    generalize hurtLines (notes[(c % (deeds.length : Int)).toNat]) [6, 7] (c / 8) = bl at m1 rv bad okb lnb
    walk_at "gs"
    refine i_slL (SqL.of (s01 _ _ h4)) fun p1 hp1 => ?_
    rw [show cutV nvs none (some (c % (deeds.length : Int))) = nvs.take (c % (deeds.length : Int)).toNat from cut_takeI (by omega) (by omega)]
    have t1 := same_upd hp1 (.lst (nvs.take (c % (deeds.length : Int)).toNat))
    walk_at "gs"
    refine ⟨small_le (by simp), fun p2 hp2 => ?_⟩
    have t2 := same_upd hp2 (.lst [V.ref b])
    walk_at "gs"
    refine i_plusL (t2 _ _ upd_same) upd_same (small_le (by simp; omega)) fun p3 hp3 => ?_
    have t3 := same_upd hp3 (.lst (nvs.take (c % (deeds.length : Int)).toNat ++ [V.ref b]))
    have s03 := s01.trans (t1.trans (t2.trans t3))
    walk_at "gs"
    refine i_slL (SqL.of (s03 _ _ h4)) fun p4 hp4 => ?_
    rw [show cutV nvs (some (c % (deeds.length : Int) + 1)) none = nvs.drop ((c % (deeds.length : Int)).toNat + 1) by
      rw [show c % (deeds.length : Int) + 1 = (((c % (deeds.length : Int)).toNat + 1 : Nat) : Int) by omega]; exact cut_drop (by omega)]
    have t4 := same_upd hp4 (.lst (nvs.drop ((c % (deeds.length : Int)).toNat + 1)))
    walk_at "gs"
    refine i_plusL (t4 _ _ upd_same) upd_same (small_le (by simp; omega)) fun p5 hp5 => ?_
    have t5 := same_upd hp5 (.lst ((nvs.take (c % (deeds.length : Int)).toNat ++ [V.ref b]) ++ nvs.drop ((c % (deeds.length : Int)).toNat + 1)))
    walk_at "gs"
    refine ⟨small_le (by simp), fun pb hpb => ?_⟩
    have t6 := same_upd hpb (.lst [V.ref y1, .ref y2, .ref a3, .ref p5])
    have s16 := t1.trans (t2.trans (t3.trans (t4.trans (t5.trans t6))))
    have s06 := s01.trans s16
    have nr' := NotesAt.same s06 nr
    refine q _ _ _ _ _ _ s06 ⟨pb, y1, y2, a3, p5, dvs, _, rfl, upd_same, Rep.same s06 _ r1, Rep.same s06 _ r2, s06 _ _ h3, t6 _ _ upd_same, DeedsAt.same s06 dr, R2.append (R2.append (R2.take nr' _) (R2.cons (Rep.same s16 _ rv) R2.nil)) (R2.drop nr' _)⟩ { hF with o := ?_, ko := ?_ } (bad_notes mid_mem bad)
    · rw [mid_len ltn]; exact hF.o
    · intro ls hls
      rcases in_mid hls with z | z
      · exact hF.ko ls z
      · rw [z]; exact ⟨lnb, okb⟩
  with_reducible refine i_skip (fun Q2 q2 => ?_) ?_
  · walk_at "gs"
    rw [decide_eq_false e2]
    exact q2
  by_cases e3 : way = 3
  · with_reducible refine i_take (fun Q2 q2 => ?_) (fun NX => ?_)
    · walk_at "gs"
      rw [decide_eq_true e3]
      exact q2
    with_reducible refine i_seq ?_
    walk_at "gs"
    refine i_slL (SqL.of h4) fun p1 hp1 => ?_
    rw [show cutV nvs none (some ((deeds.length : Int) - 1)) = nvs.take (deeds.length - 1) by
      rw [show (deeds.length : Int) - 1 = ((deeds.length - 1 : Nat) : Int) by omega]; exact cut_take (by omega)]
    have t1 := same_upd hp1 (.lst (nvs.take (deeds.length - 1)))
    walk_at "gs"
    refine ⟨small_le (by simp), fun p2 hp2 => ?_⟩
    have t2 := same_upd hp2 (.lst [])
    walk_at "gs"
    refine ⟨small_le (by simp), fun p3 hp3 => ?_⟩
    have t3 := same_upd hp3 (.lst [V.ref p2])
    walk_at "gs"
    refine i_plusL (t3 _ _ (t2 _ _ (t1 _ _ h4))) upd_same (small_le (by simp; omega)) fun p4 hp4 => ?_
    have t4 := same_upd hp4 (.lst (nvs ++ [V.ref p2]))
    walk_at "gs"
    refine ⟨small_le (by simp), fun p5 hp5 => ?_⟩
    have t5 := same_upd hp5 (.lst [])
    walk_at "gs"
    refine ⟨small_le (by simp), fun p6 hp6 => ?_⟩
    have t6 := same_upd hp6 (.lst [V.ref p1, .ref p4, .ref p5])
    have t46 := t4.trans (t5.trans t6)
    have t26 := t2.trans (t3.trans t46)
    have s6 := t1.trans t26
    have f1 := t26 _ _ (upd_same (H := H) (a := p1) (o := .lst (nvs.take (deeds.length - 1))))
    have f2 := (t3.trans t46) _ _ (upd_same (H := upd H p1 (.lst (nvs.take (deeds.length - 1)))) (a := p2) (o := .lst []))
    have f4 := (t5.trans t6) _ _ (upd_same (H := upd (upd (upd H p1 (.lst (nvs.take (deeds.length - 1)))) p2 (.lst [])) p3 (.lst [V.ref p2])) (a := p4) (o := .lst (nvs ++ [V.ref p2])))
    have f5 := t6 _ _ (upd_same (H := upd (upd (upd (upd H p1 (.lst (nvs.take (deeds.length - 1)))) p2 (.lst [])) p3 (.lst [V.ref p2])) p4 (.lst (nvs ++ [V.ref p2]))) (a := p5) (o := .lst []))
    have f6 := upd_same (H := upd (upd (upd (upd (upd H p1 (.lst (nvs.take (deeds.length - 1)))) p2 (.lst [])) p3 (.lst [V.ref p2])) p4 (.lst (nvs ++ [V.ref p2]))) p5 (.lst [])) (a := p6) (o := .lst [V.ref p1, .ref p4, .ref p5])
    generalize (upd (upd (upd (upd (upd (upd H p1 (.lst (nvs.take (deeds.length - 1)))) p2 (.lst [])) p3 (.lst [V.ref p2])) p4 (.lst (nvs ++ [V.ref p2]))) p5 (.lst [])) p6 (.lst [V.ref p1, .ref p4, .ref p5])) = H6 at s6 f1 f2 f4 f5 f6
    have nr6 := NotesAt.same s6 nr
    obtain ⟨ma, mvs, ms, em, hm, hN, hlen, hle, hmem⟩ : ∃ (ma : Addr) (mvs : List V) (ms : List (List (List Int))), atI [V.ref p1, .ref p4, .ref p5] (c % 3) = some (.ref ma) ∧ H6 ma = some (.lst mvs) ∧ NotesAt K H6 ms mvs ∧ ms.length ≠ deeds.length ∧ ms.length ≤ 9 ∧ ∀ ls ∈ ms, ls ∈ notes ∨ ls = [] := by
      have : c % 3 = 0 ∨ c % 3 = 1 ∨ c % 3 = 2 := by omega
      rcases this with z | z | z <;> rw [z]
      · exact ⟨p1, _, notes.take (deeds.length - 1), rfl, f1, R2.take nr6 _, by rw [List.length_take]; omega, by rw [List.length_take]; omega, fun ls m => .inl (List.mem_of_mem_take m)⟩
      · refine ⟨p4, _, notes ++ [[]], rfl, f4, R2.append nr6 (R2.cons ?_ R2.nil), by simp; omega, by simp; omega, fun ls m => ?_⟩
        · unfold linesV Rep
          exact ⟨p2, [], rfl, SqL.of f2, by unfold List.map Reps; rfl⟩
        · rcases List.mem_append.mp m with m | m
          · exact .inl m
          · exact .inr (List.mem_singleton.mp m)
      · exact ⟨p5, _, [], rfl, f5, R2.nil, by simp; omega, by simp, fun ls m => by cases m⟩
    walk_at "gs"
    refine i_ixL (SqL.of f6) em ?_
    walk_at "gs"
    refine ⟨small_le (by simp), fun pb hpb => ?_⟩
    have t7 := same_upd hpb (.lst [V.ref y1, .ref y2, .ref a3, .ref ma])
    have s7 := s6.trans t7
    refine q _ _ _ _ _ _ s7 ⟨pb, y1, y2, a3, ma, dvs, mvs, rfl, upd_same, Rep.same s7 _ r1, Rep.same s7 _ r2, s7 _ _ h3, t7 _ _ hm, DeedsAt.same s7 dr, NotesAt.same t7 hN⟩ { hF with o := hle, ko := ?_ } (bad_count hlen)
    intro ls hls
    rcases hmem ls hls with z | z
    · exact hF.ko ls z
    · rw [z]; exact ⟨by simp, fun l hl => by cases hl⟩
  with_reducible refine i_skip (fun Q2 q2 => ?_) ?_
  · walk_at "gs"
    rw [decide_eq_false e3]
    exact q2
  by_cases e4 : way = 4
  · with_reducible refine i_take (fun Q2 q2 => ?_) (fun NX => ?_)
    · walk_at "gs"
      rw [decide_eq_true e4]
      exact q2
    walk_at "gs"
    refine ⟨small_le (by simp), fun p1 hp1 => ?_⟩
    have t1 := same_upd hp1 (.lst [])
    walk_at "gs"
    refine ⟨small_le (by simp), fun p2 hp2 => ?_⟩
    have t2 := same_upd hp2 (.lst [V.int 0])
    walk_at "gs"
    refine .inr ⟨p2, 9, [.int 0], rfl, rfl, upd_same, by decide, by decide, by decide, fun p3 hp3 => ?_⟩
    rw [nines]
    have t3 := same_upd hp3 (.lst (zeros9.map V.int))
    walk_at "gs"
    refine ⟨small_le (by simp), fun T hT => ?_⟩
    have t4 := same_upd hT (.tup [V.str "hold", .ref p3])
    walk_at "gs"
    refine ⟨small_le (by simp), fun p4 hp4 => ?_⟩
    have t5 := same_upd hp4 (.lst [V.ref T])
    walk_at "gs"
    refine .inr ⟨p4, 9, [.ref T], rfl, rfl, upd_same, by decide, by decide, (by show 1 * 9 ≤ sizeLine; decide), fun p5 hp5 => ?_⟩
    have t6 := same_upd hp5 (.lst (List.replicate (9 : Int).toNat [V.ref T]).flatten)
    walk_at "gs"
    refine ⟨small_le (by simp), fun p6 hp6 => ?_⟩
    have t7 := same_upd hp6 (.lst [V.ref p1, .ref p5])
    have s47 := t4.trans (t5.trans (t6.trans t7))
    have s27 := t2.trans (t3.trans s47)
    have sA := t1.trans s27
    have f1 := s27 _ _ (upd_same (H := H) (a := p1) (o := .lst []))
    have f3 := s47 _ _ (upd_same (H := upd (upd H p1 (.lst [])) p2 (.lst [V.int 0])) (a := p3) (o := .lst (zeros9.map V.int)))
    have fT := (t5.trans (t6.trans t7)) _ _ (upd_same (H := upd (upd (upd H p1 (.lst [])) p2 (.lst [V.int 0])) p3 (.lst (zeros9.map V.int))) (a := T) (o := .tup [V.str "hold", .ref p3]))
    have f5 := t7 _ _ (upd_same (H := upd (upd (upd (upd (upd H p1 (.lst [])) p2 (.lst [V.int 0])) p3 (.lst (zeros9.map V.int))) T (.tup [V.str "hold", .ref p3])) p4 (.lst [V.ref T])) (a := p5) (o := .lst (List.replicate (9 : Int).toNat [V.ref T]).flatten))
    have f6 := upd_same (H := upd (upd (upd (upd (upd (upd H p1 (.lst [])) p2 (.lst [V.int 0])) p3 (.lst (zeros9.map V.int))) T (.tup [V.str "hold", .ref p3])) p4 (.lst [V.ref T])) p5 (.lst (List.replicate (9 : Int).toNat [V.ref T]).flatten)) (a := p6) (o := .lst [V.ref p1, .ref p5])
    generalize upd (upd (upd (upd (upd (upd (upd H p1 (.lst [])) p2 (.lst [V.int 0])) p3 (.lst (zeros9.map V.int))) T (.tup [V.str "hold", .ref p3])) p4 (.lst [V.ref T])) p5 (.lst (List.replicate (9 : Int).toNat [V.ref T]).flatten)) p6 (.lst [V.ref p1, .ref p5]) = HA at sA f1 f3 fT f5 f6
    have dT : DeedRep HA (toD (.hold zeros9)) (.ref T) := deed_up fT (by simp) ⟨pS, pL f3, trivial⟩
    obtain ⟨da, dv', ds', ed, hda, hDA, hdl⟩ : ∃ (da : Addr) (dv' : List V) (ds' : List Dd), atI [V.ref p1, .ref p5] (c % 2) = some (.ref da) ∧ HA da = some (.lst dv') ∧ DeedsAt HA ds' dv' ∧ (ds' = [] ∨ ds' = List.replicate 9 (.hold zeros9)) := by
      have : c % 2 = 0 ∨ c % 2 = 1 := by omega
      rcases this with z | z <;> rw [z]
      · exact ⟨p1, [], [], rfl, f1, R2.nil, .inl rfl⟩
      · exact ⟨p5, _, List.replicate 9 (.hold zeros9), rfl, f5, R2.rep (P := fun d x => DeedRep HA (toD d) x) (a := Dd.hold zeros9) dT 9, .inr rfl⟩
    walk_at "gs"
    refine i_ixL (SqL.of f6) ed ?_
    walk_at "gs"
    refine ⟨small_le (by simp), fun q1 hq1 => ?_⟩
    have u1 := same_upd hq1 (.lst [])
    walk_at "gs"
    refine ⟨small_le (by simp), fun q2 hq2 => ?_⟩
    have u2 := same_upd hq2 (.lst [])
    walk_at "gs"
    refine ⟨small_le (by simp), fun q3 hq3 => ?_⟩
    have u3 := same_upd hq3 (.lst [V.ref q2])
    walk_at "gs"
    refine .inr ⟨q3, 9, [.ref q2], rfl, rfl, upd_same, by decide, by decide, (by show 1 * 9 ≤ sizeLine; decide), fun q4 hq4 => ?_⟩
    have u4 := same_upd hq4 (.lst (List.replicate (9 : Int).toNat [V.ref q2]).flatten)
    walk_at "gs"
    refine ⟨small_le (by simp), fun q5 hq5 => ?_⟩
    have u5 := same_upd hq5 (.lst [V.ref q1, .ref q4])
    have u25 := u2.trans (u3.trans (u4.trans u5))
    have uA := u1.trans u25
    have g1 := u25 _ _ (upd_same (H := HA) (a := q1) (o := .lst []))
    have g2 := (u3.trans (u4.trans u5)) _ _ (upd_same (H := upd HA q1 (.lst [])) (a := q2) (o := .lst []))
    have g4 := u5 _ _ (upd_same (H := upd (upd (upd HA q1 (.lst [])) q2 (.lst [])) q3 (.lst [V.ref q2])) (a := q4) (o := .lst (List.replicate (9 : Int).toNat [V.ref q2]).flatten))
    have g5 := upd_same (H := upd (upd (upd (upd HA q1 (.lst [])) q2 (.lst [])) q3 (.lst [V.ref q2])) q4 (.lst (List.replicate (9 : Int).toNat [V.ref q2]).flatten)) (a := q5) (o := .lst [V.ref q1, .ref q4])
    generalize upd (upd (upd (upd (upd HA q1 (.lst [])) q2 (.lst [])) q3 (.lst [V.ref q2])) q4 (.lst (List.replicate (9 : Int).toNat [V.ref q2]).flatten)) q5 (.lst [V.ref q1, .ref q4]) = HB at uA g1 g2 g4 g5
    have e0' : Rep K HB (linesV []) (.ref q2) := by
      unfold linesV Rep
      exact ⟨q2, [], rfl, SqL.of g2, by unfold List.map Reps; rfl⟩
    obtain ⟨na, nv', ns', en, hna, hNA, hnl⟩ : ∃ (na : Addr) (nv' : List V) (ns' : List (List (List Int))), atI [V.ref q1, .ref q4] (c % 2) = some (.ref na) ∧ HB na = some (.lst nv') ∧ NotesAt K HB ns' nv' ∧ (ns' = [] ∨ ns' = List.replicate 9 []) := by
      have : c % 2 = 0 ∨ c % 2 = 1 := by omega
      rcases this with z | z <;> rw [z]
      · exact ⟨q1, [], [], rfl, g1, R2.nil, .inl rfl⟩
      · exact ⟨q4, _, List.replicate 9 [], rfl, g4, R2.rep (P := fun ls x => Rep K HB (linesV ls) x) (a := ([] : List (List Int))) e0' 9, .inr rfl⟩
    walk_at "gs"
    refine i_ixL (SqL.of g5) en ?_
    walk_at "gs"
    refine ⟨small_le (by simp), fun pb hpb => ?_⟩
    have t9 := same_upd hpb (.lst [V.ref y1, .ref y2, .ref da, .ref na])
    have s9 := sA.trans (uA.trans t9)
    refine q _ _ _ _ _ _ s9 ⟨pb, y1, y2, da, na, dv', nv', rfl, upd_same, Rep.same s9 _ r1, Rep.same s9 _ r2, (uA.trans t9) _ _ hda, t9 _ _ hna, DeedsAt.same (uA.trans t9) hDA, NotesAt.same t9 hNA⟩ { hF with d := ?_, o := ?_, kd := ?_, ko := ?_ } (bad_many ?_)
    · rcases hdl with z | z <;> rw [z] <;> simp
    · rcases hnl with z | z <;> rw [z] <;> simp
    · intro d hd
      rcases hdl with z | z
      · rw [z] at hd; cases hd
      · rw [z] at hd
        rw [(List.mem_replicate.mp hd).2]
        refine ⟨by simp [zeros9], fun n hn => ?_⟩
        rw [(List.mem_replicate.mp hn).2]; unfold okN; omega
    · intro ls hls
      rcases hnl with z | z
      · rw [z] at hls; cases hls
      · rw [z] at hls
        rw [(List.mem_replicate.mp hls).2]
        exact ⟨by simp, fun l hl => by cases hl⟩
    · rcases hdl with z | z
      · rw [z]; exact .inl rfl
      · rw [z]; exact .inr (by simp)
  with_reducible refine i_skip (fun Q2 q2 => ?_) ?_
  · walk_at "gs"
    rw [decide_eq_false e4]
    exact q2
  -- a deed is spoilt
  with_reducible refine i_seq ?_
  walk_at "gs"
  refine ⟨a3, dvs, rfl, h3, ?_⟩
  refine comp_filt (goes_enum (SqL.of h3)) (kf7 deeds) (fun i => D.int i) (small_le (by omega)) (fun i x H1 R1 R2' hi s1 hx hy hn => ?_) (fun v H1 s1 n1 => ?_)
  · obtain ⟨T, x', rfl, hT, ex⟩ := hx
    have hi' : i < deeds.length := by omega
    have drx := dr.2 i deeds[i] x' (by simp) ex
    obtain ⟨t, xs, rfl, ht⟩ := word_of (drx.sq s1.sq)
    refine ⟨T, _, rfl, SqT.of hT, rfl, ⟨_, _, rfl, ?_⟩⟩
    refine ⟨_, _, rfl, ?_⟩
    refine ⟨rfl, ?_⟩
    walk_at "gs"
    refine i_ixT (SqT.of ht) at_zero ?_
    walk_at "gs"
    refine ⟨small_le (by simp), fun T3 hT3 => ?_⟩
    have t3 := same_upd hT3 (.tup [V.str "call", .str "draw"])
    walk_at "gs"
    refine i_in (neg := false) (.inr (SqT.of upd_same)) rfl rfl ?_
    have ek : kf7 deeds i = inV (.str (wordD deeds[i])) [.str "call", .str "draw"] := by unfold kf7; simp [hi']
    rw [← ek]
    show ∃ k, V.bl (kf7 deeds i) = .bl k ∧ _
    walk_at "gs"
    cases hk : kf7 deeds i with
    | true =>
      rw [if_pos rfl]
      walk_at "gs"
      exact hy hk _ _ t3 New.int
    | false =>
      rw [if_neg (by decide)]
      exact hn hk _ t3
  obtain ⟨sa, rfl, sa0, sa1⟩ := some_ints n1
  have sm : ∀ z ∈ (((List.range dvs.length).filter (kf7 deeds)).map fun i : Nat => (i : Int)), 0 ≤ z ∧ z < (deeds.length : Int) := fun z hz => by
    obtain ⟨i, hi, rfl⟩ := List.mem_map.mp hz
    have := List.mem_range.mp (List.mem_filter.mp hi).1
    exact ⟨by omega, by omega⟩
  generalize (((List.range dvs.length).filter (kf7 deeds)).map fun i : Nat => (i : Int)) = so at sa1 sm
  walk_at "gs"
  with_reducible refine i_seqJ (fun σ H2 => ∃ at' : Int, 0 ≤ at' ∧ at' < (deeds.length : Int) ∧ σ = [some (.ref pa), some (.int way), some (.int c), some (.ref y1), some (.ref y2), some (.ref a3), some (.ref a4), some (.int (deeds.length : Int)), some (.int at'), none, none, some (.ref sa)] ∧ H2 = H1) (fun NX tl => ?_) ?_
  · walk_at "gs"
    refine i_len (.inl (SqL.of sa1)) ?_
    rw [List.length_map]
    walk_at "gs"
    refine i_ite (fun e => ?_) (fun e => ?_)
    · have ls : 0 < (so.length : Int) := of_decide_eq_true e
      walk_at "gs"
      refine i_ite (fun e => ?_) (fun e => ?_)
      · walk_at "gs"
        refine i_len (.inl (SqL.of sa1)) ?_
        rw [List.length_map]
        have z1 := Int.emod_nonneg c (show (so.length : Int) ≠ 0 by omega)
        have z2 := Int.emod_lt_of_pos c ls
        walk_at "gs"
        obtain ⟨z, hz⟩ : ∃ z, so[(c % (so.length : Int)).toNat]? = some z := ⟨so[(c % (so.length : Int)).toNat]'(by omega), by simp⟩
        refine i_ixL (SqL.of sa1) (v := .int z) (atI_of z1 (by rw [List.getElem?_map, hz]; rfl)) ?_
        walk_at "gs"
        have := sm z (List.mem_of_getElem? hz)
        exact tl _ _ ⟨z, this.1, this.2, rfl, rfl⟩
      · walk_at "gs"
        exact tl _ _ ⟨_, at0, at1, rfl, rfl⟩
    · walk_at "gs"
      exact tl _ _ ⟨_, at0, at1, rfl, rfl⟩
  rintro σ H2 ⟨at', b0, b1, rfl, rfl⟩
  have ltd : at'.toNat < deeds.length := by omega
  obtain ⟨x, hx, rx⟩ := R2.get (DeedsAt.same s1 dr) ltd
  with_reducible refine i_seq ?_
  walk_at "gs"
  refine i_ixL (SqL.of (s1 _ _ h3)) (atI_of b0 hx) ?_
  walk_at "gs"
  refine ⟨x, (deeds.length : Int), c / 8, deeds[at'.toNat], rfl, rx, d9 _ (List.getElem_mem ltd), fun v' H3 s3 dv => ?_⟩
  have bad := hurtDeed_bad (count := (deeds.length : Int)) (c := c / 8) (d9 _ (List.getElem_mem ltd))
  have okb := hurtDeed_ok (count := (deeds.length : Int)) (c := c / 8) (by omega) (by omega) (d9 _ (List.getElem_mem ltd)) (okd _ (List.getElem_mem ltd))
  generalize hurtDeed (deeds.length : Int) (c / 8) deeds[at'.toNat] = hd at dv bad okb
  have s13 := s1.trans s3
  walk_at "gs"
  refine i_slL (SqL.of (s13 _ _ h3)) fun p1 hp1 => ?_
  rw [cut_takeI b0 (by omega)]
  have t1 := same_upd hp1 (.lst (dvs.take at'.toNat))
  walk_at "gs"
  refine ⟨small_le (by simp), fun p2 hp2 => ?_⟩
  have t2 := same_upd hp2 (.lst [v'])
  walk_at "gs"
  refine i_plusL (t2 _ _ upd_same) upd_same (small_le (by simp; omega)) fun p3 hp3 => ?_
  have t3 := same_upd hp3 (.lst (dvs.take at'.toNat ++ [v']))
  have s03 := s13.trans (t1.trans (t2.trans t3))
  walk_at "gs"
  refine i_slL (SqL.of (s03 _ _ h3)) fun p4 hp4 => ?_
  rw [cut_dropI (k := at' + 1) (by omega) (by omega), show (at' + 1).toNat = at'.toNat + 1 by omega]
  have t4 := same_upd hp4 (.lst (dvs.drop (at'.toNat + 1)))
  walk_at "gs"
  refine i_plusL (t4 _ _ upd_same) upd_same (small_le (by simp; omega)) fun p5 hp5 => ?_
  have t5 := same_upd hp5 (.lst ((dvs.take at'.toNat ++ [v']) ++ dvs.drop (at'.toNat + 1)))
  walk_at "gs"
  refine ⟨small_le (by simp), fun pb hpb => ?_⟩
  have t6 := same_upd hpb (.lst [V.ref y1, .ref y2, .ref p5, .ref a4])
  have s16 := t1.trans (t2.trans (t3.trans (t4.trans (t5.trans t6))))
  have s06 := s13.trans s16
  have dr' := DeedsAt.same s06 dr
  refine q _ _ _ _ _ _ s06 ⟨pb, y1, y2, p5, a4, _, nvs, rfl, upd_same, Rep.same s06 _ r1, Rep.same s06 _ r2, t6 _ _ upd_same, s06 _ _ h4, R2.append (R2.append (R2.take dr' _) (R2.cons (dv.sq s16.sq) R2.nil)) (R2.drop dr' _), NotesAt.same s06 nr⟩ { hF with d := ?_, kd := ?_ } (bad_deed mid_mem (by rw [mid_len ltd]; exact bad))
  · rw [mid_len ltd]; exact hF.d
  · intro d hd'
    rcases in_mid hd' with z | z
    · exact hF.kd d z
    · rw [z]; exact okb
def sp_law (K : PySem.W.Frag) : Sp := fun vs H Q _ => ∃ (a : Addr) (ns : List Int), vs = [.ref a] ∧ SqL K H a (ns.map V.int) ∧ ns.length ≤ 63 ∧ ∀ H', Q (.bl true) H'
def tree7 (needs leaves : List (List Int)) (deeds : List Dd) (notes : List (List (List Int))) : D := .lst [linesV needs, linesV leaves, .lst (deeds.map toD), .lst (notes.map linesV)]
theorem deed_rep {K : PySem.W.Frag} {H : Hp} {d : D} {x : V} (h : DeedRep H d x) : Rep K H d x := by
  obtain ⟨t, xs, ds, rfl, rfl, h1, h2, _, h3⟩ := h
  unfold Rep
  refine ⟨t, xs, rfl, SqT.of h1, Reps.of h2 fun i dd y e1 e2 => ?_⟩
  rcases h3 i dd y e1 e2 with ⟨i, rfl, rfl⟩ | ⟨s, rfl, rfl⟩ | ⟨b, l, rfl, rfl, hb⟩ | ⟨b, i, j, rfl, rfl, hb⟩
  · unfold Rep; rfl
  · unfold Rep; rfl
  · exact rep_ints.mpr ⟨b, rfl, SqL.of hb⟩
  · unfold Rep
    exact ⟨b, _, rfl, SqT.of hb, reps2 (by unfold Rep; rfl) (by unfold Rep; rfl)⟩
theorem R2.reps {α : Type} {K : PySem.W.Frag} {H : Hp} {f : α → D} {P : α → V → Prop} {as : List α} {xs : List V} (h : R2 P as xs) (m : ∀ a x, P a x → Rep K H (f a) x) : Reps K H (as.map f) xs := Reps.of (by rw [List.length_map]; exact h.1) fun i d x e1 e2 => by
  rw [List.getElem?_map] at e1
  obtain ⟨a, ha, rfl⟩ := Option.map_eq_some_iff.mp e1
  exact m a x (h.2 i a x ha e2)
theorem parts_rep {K : PySem.W.Frag} {H : Hp} {v : V} {needs leaves : List (List Int)} {deeds : List Dd} {notes : List (List (List Int))} (h : PartsAt K H v needs leaves deeds notes) : Rep K H (tree7 needs leaves deeds notes) v := by
  obtain ⟨pa, y1, y2, a3, a4, dvs, nvs, rfl, h1, h2, h3, h4, h5, h6, h7⟩ := h
  unfold tree7 Rep
  refine ⟨pa, _, rfl, SqL.of h1, ?_⟩
  unfold Reps
  refine ⟨_, _, rfl, h2, ?_⟩
  unfold Reps
  refine ⟨_, _, rfl, h3, ?_⟩
  refine reps2 ?_ ?_
  · unfold Rep
    exact ⟨a3, dvs, rfl, SqL.of h4, R2.reps h6 fun _ _ z => deed_rep z⟩
  · unfold Rep
    exact ⟨a4, nvs, rfl, SqL.of h5, R2.reps h7 fun _ _ z => z⟩
theorem toD_deed {d : Dd} (h : line9 d) : Deed (toD d) := by
  cases d with
  | set hd l => exact ⟨_, rfl, by simp, fun c hc => by
      simp at hc
      rcases hc with rfl | rfl | rfl
      · exact .inr (.inl ⟨_, rfl⟩)
      · exact .inl ⟨_, rfl⟩
      · exact .inr (.inr (.inl ⟨l, h, rfl⟩))⟩
  | part hd l b => exact ⟨_, rfl, by simp, fun c hc => by
      simp at hc
      rcases hc with rfl | rfl | rfl | rfl
      · exact .inr (.inl ⟨_, rfl⟩)
      · exact .inl ⟨_, rfl⟩
      · exact .inr (.inr (.inl ⟨l, h, rfl⟩))
      · exact .inl ⟨_, rfl⟩⟩
  | draw hd lo hi => exact ⟨_, rfl, by simp, fun c hc => by
      simp at hc
      rcases hc with rfl | rfl | rfl | rfl
      · exact .inr (.inl ⟨_, rfl⟩)
      · exact .inl ⟨_, rfl⟩
      · exact .inl ⟨_, rfl⟩
      · exact .inl ⟨_, rfl⟩⟩
  | turn l p => exact ⟨_, rfl, by simp, fun c hc => by
      simp at hc
      rcases hc with rfl | rfl | rfl
      · exact .inr (.inl ⟨_, rfl⟩)
      · exact .inr (.inr (.inl ⟨l, h, rfl⟩))
      · exact .inl ⟨_, rfl⟩⟩
  | hold l => exact ⟨_, rfl, by simp, fun c hc => by
      simp at hc
      rcases hc with rfl | rfl
      · exact .inr (.inl ⟨_, rfl⟩)
      · exact .inr (.inr (.inl ⟨l, h, rfl⟩))⟩
  | call m g0 g1 t0 t1 => exact ⟨_, rfl, by simp, fun c hc => by
      simp at hc
      rcases hc with rfl | rfl | rfl | rfl
      · exact .inr (.inl ⟨_, rfl⟩)
      · exact .inl ⟨_, rfl⟩
      · exact .inr (.inr (.inr ⟨_, _, rfl⟩))
      · exact .inr (.inr (.inr ⟨_, _, rfl⟩))⟩
theorem tree_dep {needs leaves : List (List Int)} {deeds : List Dd} {notes : List (List (List Int))} (h : ∀ d ∈ deeds, line9 d) : dep (tree7 needs leaves deeds notes) ≤ 60 := by
  unfold tree7 dep
  refine Nat.le_trans (Nat.succ_le_succ (deps_le (n := 4) fun d m => ?_)) (by decide)
  simp only [List.mem_cons, List.not_mem_nil, or_false] at m
  rcases m with rfl | rfl | rfl | rfl
  · exact Nat.le_trans (dep_lines needs) (by decide)
  · exact Nat.le_trans (dep_lines leaves) (by decide)
  · unfold dep
    refine Nat.le_trans (Nat.succ_le_succ (deps_le (n := 2) fun c hc => ?_)) (by decide)
    obtain ⟨d, hd, rfl⟩ := List.mem_map.mp hc
    exact dep_deed (toD_deed (h d hd))
  · unfold dep
    refine Nat.le_trans (Nat.succ_le_succ (deps_le (n := 2) fun c hc => ?_)) (by decide)
    obtain ⟨ls, _, rfl⟩ := List.mem_map.mp hc
    exact dep_lines ls
theorem tree_slim {needs leaves : List (List Int)} {deeds : List Dd} {notes : List (List (List Int))} (h : Fine needs leaves deeds notes) : Slim (tree7 needs leaves deeds notes) := by
  unfold tree7 Slim
  refine slims_of fun d m => ?_
  simp only [List.mem_cons, List.not_mem_nil, or_false] at m
  rcases m with rfl | rfl | rfl | rfl
  · exact slim_lines h.kn
  · exact slim_lines h.kl
  · unfold Slim
    refine slims_of fun c hc => ?_
    obtain ⟨d, hd, rfl⟩ := List.mem_map.mp hc
    exact slim_deed (h.kd d hd)
  · unfold Slim
    refine slims_of fun c hc => ?_
    obtain ⟨ls, hl, rfl⟩ := List.mem_map.mp hc
    exact slim_lines (h.ko ls hl).2
theorem tree_cost {needs leaves : List (List Int)} {deeds : List Dd} {notes : List (List (List Int))} (h : Fine needs leaves deeds notes) : cost (tree7 needs leaves deeds notes) ≤ 1000000 := by
  have c1 := cost_lines h.n h.kn
  have c2 := cost_lines h.l h.kl
  have c3 := costs_le (c := 600) (ds := deeds.map toD) fun d hd => by
    obtain ⟨e, he, rfl⟩ := List.mem_map.mp hd
    exact cost_deed (h.kd e he)
  have c4 := costs_le (c := 936) (ds := notes.map linesV) fun d hd => by
    obtain ⟨e, he, rfl⟩ := List.mem_map.mp hd
    exact cost_lines (h.ko e he).1 (h.ko e he).2
  rw [List.length_map] at c3 c4
  have c5 : deeds.length * 602 ≤ 9 * 602 := Nat.mul_le_mul_right _ h.d
  have c6 : notes.length * 938 ≤ 9 * 938 := Nat.mul_le_mul_right _ h.o
  have e3 : cost (.lst (deeds.map toD)) = costs (deeds.map toD) + 3 := by rw [cost]
  have e4 : cost (.lst (notes.map linesV)) = costs (notes.map linesV) + 3 := by rw [cost]
  unfold tree7
  rw [cost]
  simp only [costs]
  omega
theorem PartsAt.of {K : PySem.W.Frag} {H H' : Hp} {v : V} {needs leaves : List (List Int)} {deeds : List Dd} {notes : List (List (List Int))} (d9 : ∀ d ∈ deeds, line9 d) (h : New H H' (tree7 needs leaves deeds notes) v) : PartsAt K H' v needs leaves deeds notes := by
  unfold tree7 at h
  obtain ⟨pa, pvs, fp, rfl, pa0, pa1, pr, _, _, pf⟩ := New.lst_out h
  obtain ⟨x1, x2, x3, x4, f1, f2, f3, f4, rfl, g1, g2, g3, g4⟩ := repfs4 pr
  have r1 := RepF.rep (K := K) _ g1
  have r2 := RepF.rep (K := K) _ g2
  obtain ⟨b3, dvs, r3', rfl, h3, z3⟩ := RepF.lst_out g3
  obtain ⟨b4, nvs, r4', rfl, h4, z4⟩ := RepF.lst_out g4
  obtain ⟨y1, _, _, rfl, _⟩ := RepF.lst_out g1
  obtain ⟨y2, _, _, rfl, _⟩ := RepF.lst_out g2
  have m3 := z3.length
  have m4 := z4.length
  rw [List.length_map] at m3 m4
  refine ⟨pa, y1, y2, b3, b4, dvs, nvs, rfl, pa1, r1, r2, h3, h4, ⟨m3, fun i d x e1 e2 => ?_⟩, ⟨m4, fun i ls x e1 e2 => ?_⟩⟩
  · obtain ⟨f, hf⟩ := z3.item i (toD d) x (by rw [List.getElem?_map, e1]; rfl) e2
    exact deed_of (toD_deed (d9 d (List.mem_of_getElem? e1))) hf
  · obtain ⟨f, hf⟩ := z4.item i (linesV ls) x (by rw [List.getElem?_map, e1]; rfl) e2
    exact RepF.rep _ hf
theorem ok_law {f : Addr} {fd : FuncData} (B : Bl K mg) {C : Nat → Addr} (Z : Zt K mg C) (G_l_parts_by : Fn P w K mg base "_law_parts_by" ["script", "start", "count"] 5 (sp_l_parts_by K)) (M_Craft : Mkr P w K mg base "Craft" (C 0) ["self", "needs", "leaves", "deeds", "notes"] 2 (sp_Craft___init__ K C)) (G_right : Fn P w K mg base "right" ["craft"] 7 (sp_right K C)) (G_l_hurt : Fn P w K mg base "_law_hurt" ["parts", "way", "cell"] 3 (sp_l_hurt K)) (G_l_cell_at : Fn P w K mg base "_law_cell_at" ["script", "k"] 1 (sp_l_cell_at K)) (F : Fun K "law" "law" s_law f fd) : FnOk P w K mg base CX0 8 f fd ["script"] (sp_law K) := by
  refine F.ok (k := 7) sc_law (fun vs H Q E h => ?_) (fun cdv A outer s H vs Q E hr h => ?_)
  · obtain ⟨a, ns, rfl, _⟩ := h
    rfl
  obtain ⟨a, ns, rfl, hS, h63, q⟩ := h
  refine ⟨_, (pss_cons (ps_set (i := 1) sc_law.nd rfl (Or.inl rfl) (pe_op (k_plus K) pe_int (pe_op op_mod (pe_fn G_l_cell_at hr rfl (pa_name (pv 0) (pa_const pe_int pa_nil))) pe_int)))
      (pss_cons (ps_set (i := 2) sc_law.nd rfl (Or.inl rfl) (pe_fn G_l_parts_by hr rfl (pa_name (pv 0) (pa_const pe_int (pa_name (pv 1) pa_nil)))))
      (pss_cons (ps_set (i := 3) sc_law.nd rfl (Or.inl rfl) (pe_cmpR (k_eq K hr) (pe_op op_mod (pe_fn G_l_cell_at hr rfl (pa_name (pv 0) (pa_const pe_int pa_nil))) pe_int) pe_int (nomark _)))
      (pss_cons (ps_if (pt_not (pt_val (pv 3))) (pss_one (ps_set (i := 2) sc_law.nd rfl (Or.inl rfl) (pe_fn G_l_hurt hr rfl (pa_name (pv 2) (pa_bin (pe_op op_mod (pe_op op_fdiv (pe_fn G_l_cell_at hr rfl (pa_name (pv 0) (pa_const pe_int pa_nil))) pe_int) pe_int) (pa_call (pe_fn G_l_cell_at hr rfl (pa_name (pv 0) (pa_const pe_int pa_nil))) pa_nil)))))) pss_nil)
      (pss_cons (ps_set (i := 4) sc_law.nd rfl (Or.inl rfl) (pe_mk M_Craft hr rfl (pa_sub (pe_ix (k_ix K) (pv 2) pe_int (fun _ _ => rfl)) (pa_sub (pe_ix (k_ix K) (pv 2) pe_int (fun _ _ => rfl)) (pa_sub (pe_ix (k_ix K) (pv 2) pe_int (fun _ _ => rfl)) (pa_sub (pe_ix (k_ix K) (pv 2) pe_int (fun _ _ => rfl)) pa_nil))))))
      (pss_cons (ps_set (i := 5) sc_law.nd rfl (Or.inl rfl) (pe_callB (k_repr K hr) rfl B.repr L2.boot_repr (pa_name (pv 2) pa_nil)))
      (pss_cons (ps_set (i := 6) sc_law.nd rfl (Or.inl rfl) (pe_fn G_right hr rfl (pa_name (pv 4) pa_nil)))
      (pss_cons (ps_set (i := 7) sc_law.nd rfl (Or.inl rfl) (pe_fn G_right hr rfl (pa_call (pe_mk M_Craft hr rfl (pa_sub (pe_ix (k_ix K) (pv 2) pe_int (fun _ _ => rfl)) (pa_sub (pe_ix (k_ix K) (pv 2) pe_int (fun _ _ => rfl)) (pa_sub (pe_ix (k_ix K) (pv 2) pe_int (fun _ _ => rfl)) (pa_sub (pe_ix (k_ix K) (pv 2) pe_int (fun _ _ => rfl)) pa_nil))))) pa_nil)))
      (pss_cons (ps_if (PW.pt (pw_or (pt_not (pt_val (pe_callB (k_isi K) rfl B.isinstance L2.boot_isinstance (pa_name (pv 6) (pa_name (pe_bltn (v := .ty "bool") rfl B.bool L2.boot_bool rfl) pa_nil))))) (pw_or1 (pt_not (pt_val (pe_callB (k_isi K) rfl B.isinstance L2.boot_isinstance (pa_name (pv 7) (pa_name (pe_bltn (v := .ty "bool") rfl B.bool L2.boot_bool rfl) pa_nil)))))))) (pss_one (ps_ret pe_bl)) pss_nil)
      (pss_one (ps_ret (pe_and (pe_cmpR (k_eq K hr) (pv 6) (pv 3) (nomark _)) (pe_and (pe_cmpR (k_eq K hr) (pv 7) (pv 3) (nomark _)) (pe_one (pe_cmpR (k_eq K hr) (pe_callB (k_repr K hr) rfl B.repr L2.boot_repr (pa_name (pv 2) pa_nil)) (pv 5) (nomark _)))))))))))))))), ?_⟩
  have c1 := Int.emod_nonneg (cell ns 0) (show (8 : Int) ≠ 0 by decide)
  have c2 := Int.emod_lt_of_pos (cell ns 0) (show (0 : Int) < 8 by decide)
  generalize hcd : 1 + cell ns 0 % 8 = c at *
  with_reducible refine i_seq ?_
  walk_at "gs"
  refine i_cell hS (by decide) ?_
  walk_at "gs"
  rw [hcd]
  with_reducible refine i_seq ?_
  walk_at "gs"
  refine ⟨a, 3, c, ns, rfl, hS, by decide, by omega, by omega, fun v H0 s0 n0 => ?_⟩
  have kn : ∀ l ∈ needsL ns 3, l.length = 9 := linesD_nine
  have kl9 : ∀ l ∈ leavesL ns 3, l.length = 9 := linesD_nine
  have kd : ∀ d ∈ deedsT ns 3 c, line9 d := fun d hd => by
    obtain ⟨k, _, rfl⟩ := List.mem_map.mp hd
    exact deedT_line9 _ _
  have kt : ∀ ls ∈ notesL ns 3 c, ∀ l ∈ ls, l.length = 9 := fun ls hls => by
    obtain ⟨k, _, rfl⟩ := List.mem_map.mp hls
    exact linesD_nine
  have rt := right_true (ns := ns) (start := 3) (count := c) (by omega) (by omega)
  have n0' : New H H0 (tree7 (needsL ns 3) (leavesL ns 3) (deedsT ns 3 c) (notesL ns 3 c)) v := by
    unfold tree7
    rw [deedsT_toD]
    exact n0
  have pt0 := PartsAt.of (K := K) kd n0'
  have fn0 := fine_right kn kl9 kd kt rt
  clear n0 n0'
  generalize needsL ns 3 = needs at *
  generalize leavesL ns 3 = leaves at *
  generalize deedsT ns 3 c = deeds at *
  generalize notesL ns 3 c = notes at *
  walk_at "gs"
  with_reducible refine i_seq ?_
  walk_at "gs"
  refine i_cell (s0.seq hS) (by decide) ?_
  walk_at "gs"
  generalize hgd : decide (cell ns 1 % 3 = 0) = good
  with_reducible refine i_seqJ (fun σ H1 => ∃ v needs leaves deeds notes, σ = [some (.ref a), some (.int c), some v, some (.bl good), none, none, none, none] ∧ PartsAt K H1 v needs leaves deeds notes ∧ Fine needs leaves deeds notes ∧ rightD needs leaves deeds notes = good) (fun NX tl => ?_) ?_
  · walk_at "gs"
    cases hg : good with
    | true =>
      walk_at "gs"
      exact tl _ _ ⟨v, needs, leaves, deeds, notes, by rw [hg]; rfl, pt0, fn0, by rw [hg]; exact rt⟩
    | false =>
      walk_at "gs"
      refine i_cell (s0.seq hS) (by decide) ?_
      walk_at "gs"
      refine i_cell (s0.seq hS) (by decide) ?_
      walk_at "gs"
      refine ⟨v, _, _, needs, leaves, deeds, notes, rfl, pt0, rt, kn, kl9, kd, kt, fun v' H' needs' leaves' deeds' notes' s' p' f' r' => ?_⟩
      walk_at "gs"
      exact tl _ _ ⟨v', needs', leaves', deeds', notes', by rw [hg]; rfl, p', f', by rw [hg]; exact r'⟩
  clear pt0 fn0 rt kn kl9 kd kt
  rintro σ H1 ⟨v, needs, leaves, deeds, notes, rfl, hP, hF, hR⟩
  have d9 : ∀ d ∈ deeds, line9 d := fun d hd => okDd_line9 (hF.kd d hd)
  have trep : ∀ {Hx : Hp}, Same H1 Hx → Rep K Hx (tree7 needs leaves deeds notes) v := fun s => Rep.same s _ (parts_rep hP)
  have tdep := tree_dep (needs := needs) (leaves := leaves) (notes := notes) d9
  have tslim := tree_slim hF
  have tcost := tree_cost hF
  obtain ⟨pa, y1, y2, a3, a4, dvs, nvs, rfl, hpa, r1, r2, h3, h4, dr, nr⟩ := hP
  have make : ∀ {Hx : Hp} {Q' : Addr → Hp → Prop}, Same H1 Hx → (∀ p H2, Same Hx H2 → CraftAt K C H2 p needs leaves (deeds.map toD) notes → Q' p H2) → ∀ p dx, Hx p = none → Hx dx = none → dx ≠ p → sp_Craft___init__ K C (.ref p :: [.ref y1, .ref y2, .ref a3, .ref a4]) (upd (upd Hx dx (.own p)) p (.ins (C 0) dx [])) (fun v H2 => v = .non ∧ Q' p H2) E0 := fun {Hx Q'} sx hq p dx np ndx nex => by
    have sm : Same Hx (upd (upd Hx dx (.own p)) p (.ins (C 0) dx [])) := fun b o e => by
      rw [upd_ne (ne_of_none e np), upd_ne (ne_of_none e ndx)]; exact e
    have sx' := sx.trans sm
    refine ⟨p, dx, .ref y1, .ref y2, .ref a3, .ref a4, needs, leaves, deeds.map toD, notes, a3, a4, dvs, nvs, rfl, upd_same, Rep.same sx' _ r1, Rep.same sx' _ r2, rfl, SqL.of (sx' _ _ h3), rfl, SqL.of (sx' _ _ h4), by have := hF.n; omega, by have := hF.l; omega, by rw [List.length_map]; have := hF.d; omega, by have := hF.o; omega, by rw [List.length_map]; exact dr.1, nr.1,
      fun i d x e1 e2 => ?_, fun i ls x e1 e2 => ?_, fun H2 w1 w2 w3 w4 keep hp nw => ⟨rfl, ?_⟩⟩
    · rw [List.getElem?_map] at e1
      obtain ⟨d', hd', rfl⟩ := Option.map_eq_some_iff.mp e1
      exact (dr.2 i d' x hd' e2).sq sx'.sq
    · exact ⟨by have := (hF.ko ls (List.mem_of_getElem? e1)).1; omega, Rep.same sx' _ (nr.2 i ls x e1 e2)⟩
    · exact hq p H2 (fun b o e => keep b o (sm _ _ e) (ne_of_none e np)) (CraftAt.of hp nw)
  have asks : ∀ {Hx : Hp} {Q' : VK} {p : Addr}, CraftAt K C Hx p needs leaves (deeds.map toD) notes → (∀ H', Same Hx H' → Q' (.bl good) H') → sp_right K C [.ref p] Hx Q' E0 := fun {Hx Q' p} hc hq =>
    ⟨p, needs, leaves, deeds, notes, rfl, hc, by have := hF.n; omega, by have := hF.l; omega, by have := hF.d; omega, by have := hF.o; omega, fun l hl => (hF.kn l hl).1, fun l hl => (hF.kl l hl).1, d9, fun ls hl => ⟨by have := (hF.ko ls hl).1; omega, fun l hl' => ((hF.ko ls hl).2 l hl').1⟩, fun H' s' => by rw [hR]; exact hq H' s'⟩
  with_reducible refine i_seq ?_
  walk_at "gs"
  refine i_ixL (SqL.of hpa) (v := .ref y1) rfl ?_
  walk_at "gs"
  refine i_ixL (SqL.of hpa) (v := .ref y2) rfl ?_
  walk_at "gs"
  refine i_ixL (SqL.of hpa) (v := .ref a3) rfl ?_
  walk_at "gs"
  refine i_ixL (SqL.of hpa) (v := .ref a4) rfl ?_
  walk_at "gs"
  refine make (Same.refl _) fun p H2 s2 cr => ?_
  walk_at "gs"
  with_reducible refine i_seq ?_
  walk_at "gs"
  refine i_repr (trep s2) tdep tslim tcost ?_
  walk_at "gs"
  with_reducible refine i_seq ?_
  walk_at "gs"
  refine asks cr fun H3 s3 => ?_
  have s13 := s2.trans s3
  walk_at "gs"
  with_reducible refine i_seq ?_
  walk_at "gs"
  refine i_ixL (SqL.of (s13 _ _ hpa)) (v := .ref y1) rfl ?_
  walk_at "gs"
  refine i_ixL (SqL.of (s13 _ _ hpa)) (v := .ref y2) rfl ?_
  walk_at "gs"
  refine i_ixL (SqL.of (s13 _ _ hpa)) (v := .ref a3) rfl ?_
  walk_at "gs"
  refine i_ixL (SqL.of (s13 _ _ hpa)) (v := .ref a4) rfl ?_
  walk_at "gs"
  refine make s13 fun p2 H4 s4 cr2 => ?_
  walk_at "gs"
  refine asks cr2 fun H5 s5 => ?_
  have s15 := s13.trans (s4.trans s5)
  walk_at "go"
  refine i_isi (.bl _) kit_same ?_
  walk_at "go"
  refine i_isi (.bl _) kit_same ?_
  walk_at "go"
  rw [decide_eq_true rfl]
  walk_at "go"
  rw [decide_eq_true rfl]
  walk_at "go"
  refine i_repr (trep s15) tdep tslim tcost ?_
  walk_at "go"
  rw [decide_eq_true rfl]
  exact q _
end
end My
namespace My
open PySem L2 PyProof.Rows
theorem all_mk {l : PySem.W.OpenLaw} {w : World} {K : PySem.W.Frag} {h : Heap} {mg : Str → Option Value} {fa : Addr} (X : K.In h) (G : h.Ns mainGlobals mg) (hfa : mg "law" = some (.ref fa))
    {C0 : Addr}
    {f1 : Addr} {od1 an1 : Option Addr} {sl1 : Array (Option Value)} {oc1 kV1 dc1 pm1 cd1 ct1 : Value}
    {f2 : Addr} {od2 an2 : Option Addr} {sl2 : Array (Option Value)} {oc2 kV2 dc2 pm2 cd2 ct2 : Value}
    {f3 : Addr} {od3 an3 : Option Addr} {sl3 : Array (Option Value)} {oc3 kV3 dc3 pm3 cd3 ct3 : Value}
    {f4 : Addr} {od4 an4 : Option Addr} {sl4 : Array (Option Value)} {oc4 kV4 dc4 pm4 cd4 ct4 : Value}
    {f5 : Addr} {od5 an5 : Option Addr} {sl5 : Array (Option Value)} {oc5 kV5 dc5 pm5 cd5 ct5 : Value}
    {f6 : Addr} {od6 an6 : Option Addr} {sl6 : Array (Option Value)} {oc6 kV6 dc6 pm6 cd6 ct6 : Value}
    {f7 : Addr} {od7 an7 : Option Addr} {sl7 : Array (Option Value)} {oc7 kV7 dc7 pm7 cd7 ct7 : Value}
    {f8 : Addr} {od8 an8 : Option Addr} {sl8 : Array (Option Value)} {oc8 kV8 dc8 pm8 cd8 ct8 : Value}
    {f9 : Addr} {od9 an9 : Option Addr} {sl9 : Array (Option Value)} {oc9 kV9 dc9 pm9 cd9 ct9 : Value}
    {f10 : Addr} {od10 an10 : Option Addr} {sl10 : Array (Option Value)} {oc10 kV10 dc10 pm10 cd10 ct10 : Value}
    {f11 : Addr} {od11 an11 : Option Addr} {sl11 : Array (Option Value)} {oc11 kV11 dc11 pm11 cd11 ct11 : Value}
    {f12 : Addr} {od12 an12 : Option Addr} {sl12 : Array (Option Value)} {oc12 kV12 dc12 pm12 cd12 ct12 : Value}
    {f13 : Addr} {od13 an13 : Option Addr} {sl13 : Array (Option Value)} {oc13 kV13 dc13 pm13 cd13 ct13 : Value}
    {f14 : Addr} {od14 an14 : Option Addr} {sl14 : Array (Option Value)} {oc14 kV14 dc14 pm14 cd14 ct14 : Value}
    {f15 : Addr} {od15 an15 : Option Addr} {sl15 : Array (Option Value)} {oc15 kV15 dc15 pm15 cd15 ct15 : Value}
    {f16 : Addr} {od16 an16 : Option Addr} {sl16 : Array (Option Value)} {oc16 kV16 dc16 pm16 cd16 ct16 : Value}
    {f17 : Addr} {od17 an17 : Option Addr} {sl17 : Array (Option Value)} {oc17 kV17 dc17 pm17 cd17 ct17 : Value}
    {f18 : Addr} {od18 an18 : Option Addr} {sl18 : Array (Option Value)} {oc18 kV18 dc18 pm18 cd18 ct18 : Value}
    {f19 : Addr} {od19 an19 : Option Addr} {sl19 : Array (Option Value)} {oc19 kV19 dc19 pm19 cd19 ct19 : Value}
    {f20 : Addr} {od20 an20 : Option Addr} {sl20 : Array (Option Value)} {oc20 kV20 dc20 pm20 cd20 ct20 : Value}
    {f21 : Addr} {od21 an21 : Option Addr} {sl21 : Array (Option Value)} {oc21 kV21 dc21 pm21 cd21 ct21 : Value}
    {f22 : Addr} {od22 an22 : Option Addr} {sl22 : Array (Option Value)} {oc22 kV22 dc22 pm22 cd22 ct22 : Value}
    {f23 : Addr} {od23 an23 : Option Addr} {sl23 : Array (Option Value)} {oc23 kV23 dc23 pm23 cd23 ct23 : Value}
    {f24 : Addr} {od24 an24 : Option Addr} {sl24 : Array (Option Value)} {oc24 kV24 dc24 pm24 cd24 ct24 : Value}
    {f25 : Addr} {od25 an25 : Option Addr} {sl25 : Array (Option Value)} {oc25 kV25 dc25 pm25 cd25 ct25 : Value}
    {f26 : Addr} {od26 an26 : Option Addr} {sl26 : Array (Option Value)} {oc26 kV26 dc26 pm26 cd26 ct26 : Value}
    {f27 : Addr} {od27 an27 : Option Addr} {sl27 : Array (Option Value)} {oc27 kV27 dc27 pm27 cd27 ct27 : Value}
    {f28 : Addr} {od28 an28 : Option Addr} {sl28 : Array (Option Value)} {oc28 kV28 dc28 pm28 cd28 ct28 : Value}
    {a_HAND_SPOTS : Addr} {dd_HAND_SPOTS : Option Addr} {n_HAND_SPOTS : Nat} {ss_HAND_SPOTS : Array (Option Value)} {t_HAND_SPOTS_0 t_HAND_SPOTS_1 t_HAND_SPOTS_2 t_HAND_SPOTS_3 : Tok}
    {a_LEFT_SPOTS : Addr} {dd_LEFT_SPOTS : Option Addr} {n_LEFT_SPOTS : Nat} {ss_LEFT_SPOTS : Array (Option Value)} {t_LEFT_SPOTS_0 t_LEFT_SPOTS_1 : Tok}
    {t_MOST_LINES : Tok}
    {t_MOST_DEEDS : Tok}
    {t_LAST_HAND : Tok}
    {t_LAST_NUMBER : Tok}
    {t_GREATEST_BY : Tok}
    {t_GREATEST : Tok}
    (aC0 : PySem.W.nsIn K mainGlobals "Craft" = some (some (.ref C0)))
    (a1 : PySem.W.nsIn K mainGlobals "copied_lines" = some (some (.ref f1))) (l1 : K.lookup f1 = some ⟨oc1, od1, .func (PySem.W.fnOf "copied_lines" "copied_lines" (defArgs s_copied_lines) (defBody s_copied_lines) (defScope s_copied_lines) .none kV1 dc1 pm1 an1 cd1 ct1), sl1⟩) (c1 : PySem.W.codeIn K cd1 "copied_lines" = true) (k1 : PySem.W.keepIn K (.ref f1) = true)
    (a2 : PySem.W.nsIn K mainGlobals "copied_deed" = some (some (.ref f2))) (l2 : K.lookup f2 = some ⟨oc2, od2, .func (PySem.W.fnOf "copied_deed" "copied_deed" (defArgs s_copied_deed) (defBody s_copied_deed) (defScope s_copied_deed) .none kV2 dc2 pm2 an2 cd2 ct2), sl2⟩) (c2 : PySem.W.codeIn K cd2 "copied_deed" = true) (k2 : PySem.W.keepIn K (.ref f2) = true)
    (a3 : PySem.W.findIn K (.ref C0) "__init__" = some (some (.ref f3))) (i3 : PySem.W.isFn K (.ref f3) = true) (l3 : K.lookup f3 = some ⟨oc3, od3, .func (PySem.W.fnOf "__init__" "Craft.__init__" (defArgs s_Craft___init__) (defBody s_Craft___init__) (defScope s_Craft___init__) .none kV3 dc3 pm3 an3 cd3 ct3), sl3⟩) (c3 : PySem.W.codeIn K cd3 "Craft.__init__" = true) (k3 : PySem.W.keepIn K (.ref f3) = true)
    (a4 : PySem.W.nsIn K mainGlobals "between" = some (some (.ref f4))) (l4 : K.lookup f4 = some ⟨oc4, od4, .func (PySem.W.fnOf "between" "between" (defArgs s_between) (defBody s_between) (defScope s_between) .none kV4 dc4 pm4 an4 cd4 ct4), sl4⟩) (c4 : PySem.W.codeIn K cd4 "between" = true) (k4 : PySem.W.keepIn K (.ref f4) = true)
    (a5 : PySem.W.nsIn K mainGlobals "small_enough" = some (some (.ref f5))) (l5 : K.lookup f5 = some ⟨oc5, od5, .func (PySem.W.fnOf "small_enough" "small_enough" (defArgs s_small_enough) (defBody s_small_enough) (defScope s_small_enough) .none kV5 dc5 pm5 an5 cd5 ct5), sl5⟩) (c5 : PySem.W.codeIn K cd5 "small_enough" = true) (k5 : PySem.W.keepIn K (.ref f5) = true)
    (a6 : PySem.W.nsIn K mainGlobals "line_right" = some (some (.ref f6))) (l6 : K.lookup f6 = some ⟨oc6, od6, .func (PySem.W.fnOf "line_right" "line_right" (defArgs s_line_right) (defBody s_line_right) (defScope s_line_right) .none kV6 dc6 pm6 an6 cd6 ct6), sl6⟩) (c6 : PySem.W.codeIn K cd6 "line_right" = true) (k6 : PySem.W.keepIn K (.ref f6) = true)
    (a7 : PySem.W.nsIn K mainGlobals "lines_right" = some (some (.ref f7))) (l7 : K.lookup f7 = some ⟨oc7, od7, .func (PySem.W.fnOf "lines_right" "lines_right" (defArgs s_lines_right) (defBody s_lines_right) (defScope s_lines_right) .none kV7 dc7 pm7 an7 cd7 ct7), sl7⟩) (c7 : PySem.W.codeIn K cd7 "lines_right" = true) (k7 : PySem.W.keepIn K (.ref f7) = true)
    (a8 : PySem.W.nsIn K mainGlobals "oath_right" = some (some (.ref f8))) (l8 : K.lookup f8 = some ⟨oc8, od8, .func (PySem.W.fnOf "oath_right" "oath_right" (defArgs s_oath_right) (defBody s_oath_right) (defScope s_oath_right) .none kV8 dc8 pm8 an8 cd8 ct8), sl8⟩) (c8 : PySem.W.codeIn K cd8 "oath_right" = true) (k8 : PySem.W.keepIn K (.ref f8) = true)
    (a9 : PySem.W.nsIn K mainGlobals "hand_right" = some (some (.ref f9))) (l9 : K.lookup f9 = some ⟨oc9, od9, .func (PySem.W.fnOf "hand_right" "hand_right" (defArgs s_hand_right) (defBody s_hand_right) (defScope s_hand_right) .none kV9 dc9 pm9 an9 cd9 ct9), sl9⟩) (c9 : PySem.W.codeIn K cd9 "hand_right" = true) (k9 : PySem.W.keepIn K (.ref f9) = true)
    (a10 : PySem.W.nsIn K mainGlobals "two_hands_right" = some (some (.ref f10))) (l10 : K.lookup f10 = some ⟨oc10, od10, .func (PySem.W.fnOf "two_hands_right" "two_hands_right" (defArgs s_two_hands_right) (defBody s_two_hands_right) (defScope s_two_hands_right) .none kV10 dc10 pm10 an10 cd10 ct10), sl10⟩) (c10 : PySem.W.codeIn K cd10 "two_hands_right" = true) (k10 : PySem.W.keepIn K (.ref f10) = true)
    (a11 : PySem.W.nsIn K mainGlobals "call_right" = some (some (.ref f11))) (l11 : K.lookup f11 = some ⟨oc11, od11, .func (PySem.W.fnOf "call_right" "call_right" (defArgs s_call_right) (defBody s_call_right) (defScope s_call_right) .none kV11 dc11 pm11 an11 cd11 ct11), sl11⟩) (c11 : PySem.W.codeIn K cd11 "call_right" = true) (k11 : PySem.W.keepIn K (.ref f11) = true)
    (a12 : PySem.W.nsIn K mainGlobals "range_right" = some (some (.ref f12))) (l12 : K.lookup f12 = some ⟨oc12, od12, .func (PySem.W.fnOf "range_right" "range_right" (defArgs s_range_right) (defBody s_range_right) (defScope s_range_right) .none kV12 dc12 pm12 an12 cd12 ct12), sl12⟩) (c12 : PySem.W.codeIn K cd12 "range_right" = true) (k12 : PySem.W.keepIn K (.ref f12) = true)
    (a13 : PySem.W.nsIn K mainGlobals "deed_right" = some (some (.ref f13))) (l13 : K.lookup f13 = some ⟨oc13, od13, .func (PySem.W.fnOf "deed_right" "deed_right" (defArgs s_deed_right) (defBody s_deed_right) (defScope s_deed_right) .none kV13 dc13 pm13 an13 cd13 ct13), sl13⟩) (c13 : PySem.W.codeIn K cd13 "deed_right" = true) (k13 : PySem.W.keepIn K (.ref f13) = true)
    (a14 : PySem.W.nsIn K mainGlobals "deeds_right" = some (some (.ref f14))) (l14 : K.lookup f14 = some ⟨oc14, od14, .func (PySem.W.fnOf "deeds_right" "deeds_right" (defArgs s_deeds_right) (defBody s_deeds_right) (defScope s_deeds_right) .none kV14 dc14 pm14 an14 cd14 ct14), sl14⟩) (c14 : PySem.W.codeIn K cd14 "deeds_right" = true) (k14 : PySem.W.keepIn K (.ref f14) = true)
    (a15 : PySem.W.nsIn K mainGlobals "notes_right" = some (some (.ref f15))) (l15 : K.lookup f15 = some ⟨oc15, od15, .func (PySem.W.fnOf "notes_right" "notes_right" (defArgs s_notes_right) (defBody s_notes_right) (defScope s_notes_right) .none kV15 dc15 pm15 an15 cd15 ct15), sl15⟩) (c15 : PySem.W.codeIn K cd15 "notes_right" = true) (k15 : PySem.W.keepIn K (.ref f15) = true)
    (a16 : PySem.W.nsIn K mainGlobals "right" = some (some (.ref f16))) (l16 : K.lookup f16 = some ⟨oc16, od16, .func (PySem.W.fnOf "right" "right" (defArgs s_right) (defBody s_right) (defScope s_right) .none kV16 dc16 pm16 an16 cd16 ct16), sl16⟩) (c16 : PySem.W.codeIn K cd16 "right" = true) (k16 : PySem.W.keepIn K (.ref f16) = true)
    (a17 : PySem.W.nsIn K mainGlobals "_law_cell_at" = some (some (.ref f17))) (l17 : K.lookup f17 = some ⟨oc17, od17, .func (PySem.W.fnOf "_law_cell_at" "_law_cell_at" (defArgs s_l_cell_at) (defBody s_l_cell_at) (defScope s_l_cell_at) .none kV17 dc17 pm17 an17 cd17 ct17), sl17⟩) (c17 : PySem.W.codeIn K cd17 "_law_cell_at" = true) (k17 : PySem.W.keepIn K (.ref f17) = true)
    (a18 : PySem.W.nsIn K mainGlobals "_law_mix" = some (some (.ref f18))) (l18 : K.lookup f18 = some ⟨oc18, od18, .func (PySem.W.fnOf "_law_mix" "_law_mix" (defArgs s_l_mix) (defBody s_l_mix) (defScope s_l_mix) .none kV18 dc18 pm18 an18 cd18 ct18), sl18⟩) (c18 : PySem.W.codeIn K cd18 "_law_mix" = true) (k18 : PySem.W.keepIn K (.ref f18) = true)
    (a19 : PySem.W.nsIn K mainGlobals "_law_number" = some (some (.ref f19))) (l19 : K.lookup f19 = some ⟨oc19, od19, .func (PySem.W.fnOf "_law_number" "_law_number" (defArgs s_l_number) (defBody s_l_number) (defScope s_l_number) .none kV19 dc19 pm19 an19 cd19 ct19), sl19⟩) (c19 : PySem.W.codeIn K cd19 "_law_number" = true) (k19 : PySem.W.keepIn K (.ref f19) = true)
    (a20 : PySem.W.nsIn K mainGlobals "_law_line_by" = some (some (.ref f20))) (l20 : K.lookup f20 = some ⟨oc20, od20, .func (PySem.W.fnOf "_law_line_by" "_law_line_by" (defArgs s_l_line_by) (defBody s_l_line_by) (defScope s_l_line_by) .none kV20 dc20 pm20 an20 cd20 ct20), sl20⟩) (c20 : PySem.W.codeIn K cd20 "_law_line_by" = true) (k20 : PySem.W.keepIn K (.ref f20) = true)
    (a21 : PySem.W.nsIn K mainGlobals "_law_deed_by" = some (some (.ref f21))) (l21 : K.lookup f21 = some ⟨oc21, od21, .func (PySem.W.fnOf "_law_deed_by" "_law_deed_by" (defArgs s_l_deed_by) (defBody s_l_deed_by) (defScope s_l_deed_by) .none kV21 dc21 pm21 an21 cd21 ct21), sl21⟩) (c21 : PySem.W.codeIn K cd21 "_law_deed_by" = true) (k21 : PySem.W.keepIn K (.ref f21) = true)
    (a22 : PySem.W.nsIn K mainGlobals "_law_lines_by" = some (some (.ref f22))) (l22 : K.lookup f22 = some ⟨oc22, od22, .func (PySem.W.fnOf "_law_lines_by" "_law_lines_by" (defArgs s_l_lines_by) (defBody s_l_lines_by) (defScope s_l_lines_by) .none kV22 dc22 pm22 an22 cd22 ct22), sl22⟩) (c22 : PySem.W.codeIn K cd22 "_law_lines_by" = true) (k22 : PySem.W.keepIn K (.ref f22) = true)
    (a23 : PySem.W.nsIn K mainGlobals "_law_parts_by" = some (some (.ref f23))) (l23 : K.lookup f23 = some ⟨oc23, od23, .func (PySem.W.fnOf "_law_parts_by" "_law_parts_by" (defArgs s_l_parts_by) (defBody s_l_parts_by) (defScope s_l_parts_by) .none kV23 dc23 pm23 an23 cd23 ct23), sl23⟩) (c23 : PySem.W.codeIn K cd23 "_law_parts_by" = true) (k23 : PySem.W.keepIn K (.ref f23) = true)
    (a24 : PySem.W.nsIn K mainGlobals "_law_hurt_line" = some (some (.ref f24))) (l24 : K.lookup f24 = some ⟨oc24, od24, .func (PySem.W.fnOf "_law_hurt_line" "_law_hurt_line" (defArgs s_l_hurt_line) (defBody s_l_hurt_line) (defScope s_l_hurt_line) .none kV24 dc24 pm24 an24 cd24 ct24), sl24⟩) (c24 : PySem.W.codeIn K cd24 "_law_hurt_line" = true) (k24 : PySem.W.keepIn K (.ref f24) = true)
    (a25 : PySem.W.nsIn K mainGlobals "_law_hurt_deed" = some (some (.ref f25))) (l25 : K.lookup f25 = some ⟨oc25, od25, .func (PySem.W.fnOf "_law_hurt_deed" "_law_hurt_deed" (defArgs s_l_hurt_deed) (defBody s_l_hurt_deed) (defScope s_l_hurt_deed) .none kV25 dc25 pm25 an25 cd25 ct25), sl25⟩) (c25 : PySem.W.codeIn K cd25 "_law_hurt_deed" = true) (k25 : PySem.W.keepIn K (.ref f25) = true)
    (a26 : PySem.W.nsIn K mainGlobals "_law_hurt_lines" = some (some (.ref f26))) (l26 : K.lookup f26 = some ⟨oc26, od26, .func (PySem.W.fnOf "_law_hurt_lines" "_law_hurt_lines" (defArgs s_l_hurt_lines) (defBody s_l_hurt_lines) (defScope s_l_hurt_lines) .none kV26 dc26 pm26 an26 cd26 ct26), sl26⟩) (c26 : PySem.W.codeIn K cd26 "_law_hurt_lines" = true) (k26 : PySem.W.keepIn K (.ref f26) = true)
    (a27 : PySem.W.nsIn K mainGlobals "_law_hurt" = some (some (.ref f27))) (l27 : K.lookup f27 = some ⟨oc27, od27, .func (PySem.W.fnOf "_law_hurt" "_law_hurt" (defArgs s_l_hurt) (defBody s_l_hurt) (defScope s_l_hurt) .none kV27 dc27 pm27 an27 cd27 ct27), sl27⟩) (c27 : PySem.W.codeIn K cd27 "_law_hurt" = true) (k27 : PySem.W.keepIn K (.ref f27) = true)
    (a28 : PySem.W.nsIn K mainGlobals "law" = some (some (.ref f28))) (l28 : K.lookup f28 = some ⟨oc28, od28, .func (PySem.W.fnOf "law" "law" (defArgs s_law) (defBody s_law) (defScope s_law) .none kV28 dc28 pm28 an28 cd28 ct28), sl28⟩) (c28 : PySem.W.codeIn K cd28 "law" = true) (k28 : PySem.W.keepIn K (.ref f28) = true)
    (z_all : PySem.W.nsIn K mainGlobals "all" = some none)
    (z_bool : PySem.W.nsIn K mainGlobals "bool" = some none)
    (z_enumerate : PySem.W.nsIn K mainGlobals "enumerate" = some none)
    (z_isinstance : PySem.W.nsIn K mainGlobals "isinstance" = some none)
    (z_len : PySem.W.nsIn K mainGlobals "len" = some none)
    (z_list : PySem.W.nsIn K mainGlobals "list" = some none)
    (z_max : PySem.W.nsIn K mainGlobals "max" = some none)
    (z_range : PySem.W.nsIn K mainGlobals "range" = some none)
    (z_repr : PySem.W.nsIn K mainGlobals "repr" = some none)
    (z_tuple : PySem.W.nsIn K mainGlobals "tuple" = some none)
    (y_HAND_SPOTS : PySem.W.nsIn K mainGlobals "HAND_SPOTS" = some (some (.ref a_HAND_SPOTS))) (x_HAND_SPOTS : K.lookup a_HAND_SPOTS = some ⟨.type "tuple", dd_HAND_SPOTS, .seq #[.int 1 t_HAND_SPOTS_0, .int 2 t_HAND_SPOTS_1, .int 3 t_HAND_SPOTS_2, .int 4 t_HAND_SPOTS_3] n_HAND_SPOTS, ss_HAND_SPOTS⟩)
    (y_LEFT_SPOTS : PySem.W.nsIn K mainGlobals "LEFT_SPOTS" = some (some (.ref a_LEFT_SPOTS))) (x_LEFT_SPOTS : K.lookup a_LEFT_SPOTS = some ⟨.type "tuple", dd_LEFT_SPOTS, .seq #[.int 7 t_LEFT_SPOTS_0, .int 8 t_LEFT_SPOTS_1] n_LEFT_SPOTS, ss_LEFT_SPOTS⟩)
    (y_MOST_LINES : PySem.W.nsIn K mainGlobals "MOST_LINES" = some (some (.int 2 t_MOST_LINES)))
    (y_MOST_DEEDS : PySem.W.nsIn K mainGlobals "MOST_DEEDS" = some (some (.int 8 t_MOST_DEEDS)))
    (y_LAST_HAND : PySem.W.nsIn K mainGlobals "LAST_HAND" = some (some (.int 3 t_LAST_HAND)))
    (y_LAST_NUMBER : PySem.W.nsIn K mainGlobals "LAST_NUMBER" = some (some (.int 99 t_LAST_NUMBER)))
    (y_GREATEST_BY : PySem.W.nsIn K mainGlobals "GREATEST_BY" = some (some (.int 1000 t_GREATEST_BY)))
    (y_GREATEST : PySem.W.nsIn K mainGlobals "GREATEST" = some (some (.int 1000000000 t_GREATEST)))
    (pg0 : PySem.W.plainGet K C0 Str.empty = true) (hd0 : PySem.W.hasDictIn K C0 = true) (po0 : PySem.W.plainOver K C0 = true) (sa0 : PySem.W.findIn K (.ref C0) "__setattr__" = some (some (.builtin "object.__setattr__"))) (mk0 : PySem.W.makesIn K C0 = true) (kc0 : PySem.W.keepIn K (.ref C0) = true)
    (na0_needs : PySem.W.findIn K (.ref C0) "needs" = some none)
    (na0_leaves : PySem.W.findIn K (.ref C0) "leaves" = some none)
    (na0_deeds : PySem.W.findIn K (.ref C0) "deeds" = some none)
    (na0_notes : PySem.W.findIn K (.ref C0) "notes" = some none) :
    ∃ fd : FuncData, (∀ (s : Shared) (v : Value), BindsTo s fd ⟨[v], []⟩ [("script", v)]) ∧ ∀ base : Heap, K.In base → base.Ns mainGlobals mg → FnOk l.prog w K mg base CX0 8 fa fd ["script"] (sp_law K) := by
  have e := hfa.symm.trans (PySem.W.mg_of X G a28)
  cases e
  have B : Bl K mg := ⟨PySem.W.mg_none_of X G z_all, PySem.W.mg_none_of X G z_bool, PySem.W.mg_none_of X G z_enumerate, PySem.W.mg_none_of X G z_isinstance, PySem.W.mg_none_of X G z_len, PySem.W.mg_none_of X G z_list, PySem.W.mg_none_of X G z_max, PySem.W.mg_none_of X G z_range, PySem.W.mg_none_of X G z_repr, PySem.W.mg_none_of X G z_tuple, ⟨_, PySem.W.mg_of X G y_MOST_LINES⟩, ⟨_, PySem.W.mg_of X G y_MOST_DEEDS⟩, ⟨_, PySem.W.mg_of X G y_LAST_HAND⟩, ⟨_, PySem.W.mg_of X G y_LAST_NUMBER⟩, ⟨_, PySem.W.mg_of X G y_GREATEST_BY⟩, ⟨_, PySem.W.mg_of X G y_GREATEST⟩, ⟨_, PySem.W.mg_of X G y_HAND_SPOTS, fun _ => .inr ⟨_, _, _, x_HAND_SPOTS, rfl, rfl, small_le (by simp), .cons ⟨_, rfl⟩ (.cons ⟨_, rfl⟩ (.cons ⟨_, rfl⟩ (.cons ⟨_, rfl⟩ (.nil))))⟩⟩, ⟨_, PySem.W.mg_of X G y_LEFT_SPOTS, fun _ => .inr ⟨_, _, _, x_LEFT_SPOTS, rfl, rfl, small_le (by simp), .cons ⟨_, rfl⟩ (.cons ⟨_, rfl⟩ (.nil))⟩⟩⟩
  have Z : Zt K mg (fun i => [C0].getD i 0) := ⟨⟨pg0, hd0, po0, sa0⟩, PySem.W.mg_of X G aC0, na0_needs, na0_leaves, na0_deeds, na0_notes⟩
  have F1 := fun_mk (st := s_copied_lines) l1 c1 k1
  have F2 := fun_mk (st := s_copied_deed) l2 c2 k2
  have F3 := fun_mk (st := s_Craft___init__) l3 c3 k3
  have F4 := fun_mk (st := s_between) l4 c4 k4
  have F5 := fun_mk (st := s_small_enough) l5 c5 k5
  have F6 := fun_mk (st := s_line_right) l6 c6 k6
  have F7 := fun_mk (st := s_lines_right) l7 c7 k7
  have F8 := fun_mk (st := s_oath_right) l8 c8 k8
  have F9 := fun_mk (st := s_hand_right) l9 c9 k9
  have F10 := fun_mk (st := s_two_hands_right) l10 c10 k10
  have F11 := fun_mk (st := s_call_right) l11 c11 k11
  have F12 := fun_mk (st := s_range_right) l12 c12 k12
  have F13 := fun_mk (st := s_deed_right) l13 c13 k13
  have F14 := fun_mk (st := s_deeds_right) l14 c14 k14
  have F15 := fun_mk (st := s_notes_right) l15 c15 k15
  have F16 := fun_mk (st := s_right) l16 c16 k16
  have F17 := fun_mk (st := s_l_cell_at) l17 c17 k17
  have F18 := fun_mk (st := s_l_mix) l18 c18 k18
  have F19 := fun_mk (st := s_l_number) l19 c19 k19
  have F20 := fun_mk (st := s_l_line_by) l20 c20 k20
  have F21 := fun_mk (st := s_l_deed_by) l21 c21 k21
  have F22 := fun_mk (st := s_l_lines_by) l22 c22 k22
  have F23 := fun_mk (st := s_l_parts_by) l23 c23 k23
  have F24 := fun_mk (st := s_l_hurt_line) l24 c24 k24
  have F25 := fun_mk (st := s_l_hurt_deed) l25 c25 k25
  have F26 := fun_mk (st := s_l_hurt_lines) l26 c26 k26
  have F27 := fun_mk (st := s_l_hurt) l27 c27 k27
  have F28 := fun_mk (st := s_law) l28 c28 k28
  refine ⟨PySem.W.fnOf "law" "law" (defArgs s_law) (defBody s_law) (defScope s_law) .none kV28 dc28 pm28 an28 cd28 ct28, fun s v => .of_eq rfl, fun base _ _ => ?_⟩
  have G1 := fn_copied_lines (P := l.prog) (w := w) (base := base) B Z  F1 (PySem.W.mg_of X G a1)
  have G2 := fn_copied_deed (P := l.prog) (w := w) (base := base) B Z  F2 (PySem.W.mg_of X G a2)
  have G3 := mk_Craft (P := l.prog) (w := w) (base := base) B Z G1 G2 F3 ⟨mk0, a3, i3, kc0⟩
  have G4 := fn_between (P := l.prog) (w := w) (base := base) B Z  F4 (PySem.W.mg_of X G a4)
  have G5 := fn_small_enough (P := l.prog) (w := w) (base := base) B Z G4 F5 (PySem.W.mg_of X G a5)
  have G6 := fn_line_right (P := l.prog) (w := w) (base := base) B Z G5 F6 (PySem.W.mg_of X G a6)
  have G7 := fn_lines_right (P := l.prog) (w := w) (base := base) B Z G6 F7 (PySem.W.mg_of X G a7)
  have G8 := fn_oath_right (P := l.prog) (w := w) (base := base) B Z G7 F8 (PySem.W.mg_of X G a8)
  have G9 := fn_hand_right (P := l.prog) (w := w) (base := base) B Z G4 F9 (PySem.W.mg_of X G a9)
  have G10 := fn_two_hands_right (P := l.prog) (w := w) (base := base) B Z G9 F10 (PySem.W.mg_of X G a10)
  have G11 := fn_call_right (P := l.prog) (w := w) (base := base) B Z G10 G4 F11 (PySem.W.mg_of X G a11)
  have G12 := fn_range_right (P := l.prog) (w := w) (base := base) B Z G5 F12 (PySem.W.mg_of X G a12)
  have G13 := fn_deed_right (P := l.prog) (w := w) (base := base) B Z G11 G6 G9 G4 G12 F13 (PySem.W.mg_of X G a13)
  have G14 := fn_deeds_right (P := l.prog) (w := w) (base := base) B Z G4 G13 F14 (PySem.W.mg_of X G a14)
  have G15 := fn_notes_right (P := l.prog) (w := w) (base := base) B Z G7 F15 (PySem.W.mg_of X G a15)
  have G16 := fn_right (P := l.prog) (w := w) (base := base) B Z G8 G14 G15 F16 (PySem.W.mg_of X G a16)
  have G17 := fn_l_cell_at (P := l.prog) (w := w) (base := base) B Z  F17 (PySem.W.mg_of X G a17)
  have G18 := fn_l_mix (P := l.prog) (w := w) (base := base) B Z  F18 (PySem.W.mg_of X G a18)
  have G19 := fn_l_number (P := l.prog) (w := w) (base := base) B Z G18 F19 (PySem.W.mg_of X G a19)
  have G20 := fn_l_line_by (P := l.prog) (w := w) (base := base) B Z G19 G18 F20 (PySem.W.mg_of X G a20)
  have G21 := fn_l_deed_by (P := l.prog) (w := w) (base := base) B Z G20 G18 G19 F21 (PySem.W.mg_of X G a21)
  have G22 := fn_l_lines_by (P := l.prog) (w := w) (base := base) B Z G20 G18 F22 (PySem.W.mg_of X G a22)
  have G23 := fn_l_parts_by (P := l.prog) (w := w) (base := base) B Z G22 G17 G21 F23 (PySem.W.mg_of X G a23)
  have G24 := fn_l_hurt_line (P := l.prog) (w := w) (base := base) B Z  F24 (PySem.W.mg_of X G a24)
  have G25 := fn_l_hurt_deed (P := l.prog) (w := w) (base := base) B Z G24 F25 (PySem.W.mg_of X G a25)
  have G26 := fn_l_hurt_lines (P := l.prog) (w := w) (base := base) B Z G24 F26 (PySem.W.mg_of X G a26)
  have G27 := fn_l_hurt (P := l.prog) (w := w) (base := base) B Z G25 G26 F27 (PySem.W.mg_of X G a27)
  exact ok_law B Z G23 G3 G16 G27 G17 F28
theorem walk {l : PySem.W.OpenLaw} {q : Program} {loose : List Str} {XP : (Str → Option Value) → Heap → Prop} {YP : World → Heap → Prop} {d : DefRec} {K : Params → PySem.W.Frag} (hn : l.most = some 63) (hdf : d.params.defaults = [])
    (hY : ∀ (w : World) (h : Heap), YP w h → (K w.params).In h)
    (F : ∀ (w : World) (mg : Str → Option Value) (fa : Addr) (h : Heap), (K w.params).In h → h.Ns mainGlobals mg → mg d.name = some (.ref fa) → ∃ fd : FuncData, (∀ (s : Shared) (u : Value), BindsTo s fd ⟨[u], []⟩ [("script", u)]) ∧ ∀ base : Heap, (K w.params).In base → base.Ns mainGlobals mg → FnOk l.prog w (K w.params) mg base CX0 8 fa fd ["script"] (sp_law (K w.params))) :
    PySem.W.WalkO q loose XP YP l.row.toRowW d [] (fun f vs => PySem.call f vs) :=
  L2.walk_of (n := 63) (k := 8) (x := "script") (CX := fun _ => CX0) (sp := fun w => sp_law (K w.params)) hn (by decide) hdf ⟨rfl, by decide, by decide, rfl⟩ hY F (fun _ _ a ns hl _ hS => ⟨a, ns, rfl, hS, hl, fun _ => rfl⟩) fun _ _ _ _ _ z => z
end My
open PySem PySem.W PyProof.Rows
set_option maxRecDepth 100000 in
set_option maxHeartbeats 0 in
theorem PySem.Challenge.cw_swornhall_k07_right_crafts_holds : PySem.Challenge.rw_swornhall_k07_right_crafts.Holds := by
  w_on; o_law; k_head; (case hw => w_witness2)
  k_fill
  refine My.walk (l := PySem.Challenge.rw_swornhall_k07_right_crafts) rfl rfl (fun w h Y => PySem.W.kIn_of Y) ?F
  case F =>
    intro w mg fa h KX G hmg
    refine' My.all_mk KX G hmg ?aC0 ?a1 ?l1 ?c1 ?k1 ?a2 ?l2 ?c2 ?k2 ?a3 ?i3 ?l3 ?c3 ?k3 ?a4 ?l4 ?c4 ?k4 ?a5 ?l5 ?c5 ?k5 ?a6 ?l6 ?c6 ?k6 ?a7 ?l7 ?c7 ?k7 ?a8 ?l8 ?c8 ?k8 ?a9 ?l9 ?c9 ?k9 ?a10 ?l10 ?c10 ?k10 ?a11 ?l11 ?c11 ?k11 ?a12 ?l12 ?c12 ?k12 ?a13 ?l13 ?c13 ?k13 ?a14 ?l14 ?c14 ?k14 ?a15 ?l15 ?c15 ?k15 ?a16 ?l16 ?c16 ?k16 ?a17 ?l17 ?c17 ?k17 ?a18 ?l18 ?c18 ?k18 ?a19 ?l19 ?c19 ?k19 ?a20 ?l20 ?c20 ?k20 ?a21 ?l21 ?c21 ?k21 ?a22 ?l22 ?c22 ?k22 ?a23 ?l23 ?c23 ?k23 ?a24 ?l24 ?c24 ?k24 ?a25 ?l25 ?c25 ?k25 ?a26 ?l26 ?c26 ?k26 ?a27 ?l27 ?c27 ?k27 ?a28 ?l28 ?c28 ?k28 ?z_all ?z_bool ?z_enumerate ?z_isinstance ?z_len ?z_list ?z_max ?z_range ?z_repr ?z_tuple ?y_HAND_SPOTS ?x_HAND_SPOTS ?y_LEFT_SPOTS ?x_LEFT_SPOTS ?y_MOST_LINES ?y_MOST_DEEDS ?y_LAST_HAND ?y_LAST_NUMBER ?y_GREATEST_BY ?y_GREATEST ?pg0 ?hd0 ?po0 ?sa0 ?mk0 ?kc0 ?na0_needs ?na0_leaves ?na0_deeds ?na0_notes
    (case aC0 => k_is)
    (case a1 => k_is)
    (case l1 => k_is)
    (case c1 => k_is)
    (case k1 => k_is)
    (case a2 => k_is)
    (case l2 => k_is)
    (case c2 => k_is)
    (case k2 => k_is)
    (case a3 => k_is)
    (case i3 => k_is)
    (case l3 => k_is)
    (case c3 => k_is)
    (case k3 => k_is)
    (case a4 => k_is)
    (case l4 => k_is)
    (case c4 => k_is)
    (case k4 => k_is)
    (case a5 => k_is)
    (case l5 => k_is)
    (case c5 => k_is)
    (case k5 => k_is)
    (case a6 => k_is)
    (case l6 => k_is)
    (case c6 => k_is)
    (case k6 => k_is)
    (case a7 => k_is)
    (case l7 => k_is)
    (case c7 => k_is)
    (case k7 => k_is)
    (case a8 => k_is)
    (case l8 => k_is)
    (case c8 => k_is)
    (case k8 => k_is)
    (case a9 => k_is)
    (case l9 => k_is)
    (case c9 => k_is)
    (case k9 => k_is)
    (case a10 => k_is)
    (case l10 => k_is)
    (case c10 => k_is)
    (case k10 => k_is)
    (case a11 => k_is)
    (case l11 => k_is)
    (case c11 => k_is)
    (case k11 => k_is)
    (case a12 => k_is)
    (case l12 => k_is)
    (case c12 => k_is)
    (case k12 => k_is)
    (case a13 => k_is)
    (case l13 => k_is)
    (case c13 => k_is)
    (case k13 => k_is)
    (case a14 => k_is)
    (case l14 => k_is)
    (case c14 => k_is)
    (case k14 => k_is)
    (case a15 => k_is)
    (case l15 => k_is)
    (case c15 => k_is)
    (case k15 => k_is)
    (case a16 => k_is)
    (case l16 => k_is)
    (case c16 => k_is)
    (case k16 => k_is)
    (case a17 => k_is)
    (case l17 => k_is)
    (case c17 => k_is)
    (case k17 => k_is)
    (case a18 => k_is)
    (case l18 => k_is)
    (case c18 => k_is)
    (case k18 => k_is)
    (case a19 => k_is)
    (case l19 => k_is)
    (case c19 => k_is)
    (case k19 => k_is)
    (case a20 => k_is)
    (case l20 => k_is)
    (case c20 => k_is)
    (case k20 => k_is)
    (case a21 => k_is)
    (case l21 => k_is)
    (case c21 => k_is)
    (case k21 => k_is)
    (case a22 => k_is)
    (case l22 => k_is)
    (case c22 => k_is)
    (case k22 => k_is)
    (case a23 => k_is)
    (case l23 => k_is)
    (case c23 => k_is)
    (case k23 => k_is)
    (case a24 => k_is)
    (case l24 => k_is)
    (case c24 => k_is)
    (case k24 => k_is)
    (case a25 => k_is)
    (case l25 => k_is)
    (case c25 => k_is)
    (case k25 => k_is)
    (case a26 => k_is)
    (case l26 => k_is)
    (case c26 => k_is)
    (case k26 => k_is)
    (case a27 => k_is)
    (case l27 => k_is)
    (case c27 => k_is)
    (case k27 => k_is)
    (case a28 => k_is)
    (case l28 => k_is)
    (case c28 => k_is)
    (case k28 => k_is)
    (case z_all => k_is)
    (case z_bool => k_is)
    (case z_enumerate => k_is)
    (case z_isinstance => k_is)
    (case z_len => k_is)
    (case z_list => k_is)
    (case z_max => k_is)
    (case z_range => k_is)
    (case z_repr => k_is)
    (case z_tuple => k_is)
    (case y_HAND_SPOTS => k_is)
    (case x_HAND_SPOTS => k_is)
    (case y_LEFT_SPOTS => k_is)
    (case x_LEFT_SPOTS => k_is)
    (case y_MOST_LINES => k_is)
    (case y_MOST_DEEDS => k_is)
    (case y_LAST_HAND => k_is)
    (case y_LAST_NUMBER => k_is)
    (case y_GREATEST_BY => k_is)
    (case y_GREATEST => k_is)
    (case pg0 => k_is)
    (case hd0 => k_is)
    (case po0 => k_is)
    (case sa0 => k_is)
    (case mk0 => k_is)
    (case kc0 => k_is)
    (case na0_needs => k_is)
    (case na0_leaves => k_is)
    (case na0_deeds => k_is)
    (case na0_notes => k_is)
