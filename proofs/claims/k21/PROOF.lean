import PyProof.Rows.All
import Wide.All
import OpenK.AllK
import Wide.FinOn
import Lean
import PyProof.EqAt
import PyProof.EqKinds
import PyProof.TupleCall
import PyProof.Cells
import PyProof.AutoListH
import PyProof.AutoSeq1
import PyProof.SeqI3
import PyProof.Rows.SortWalk
import KE.KSortTup
import PyProof.DictItemsLoops
import PyProof.Rows.Range3
import PyProof.DictRoadsH
import PyProof.DictKinds
import PyProof.DictIter
import PyProof.DictWalks
import PyProof.NeKinds
import PyProof.ExcBaseAll.ValueError
import PyProof.ZipIter
import PyProof.ListCopy
import PyProof.CollectWalk
import KE.KIntText
import KE.KxPart
import PyProof.SliceStr2
import PyProof.Rows.StrFirst
import PyProof.StrLawsFirst
import KE.KxText
import PyProof.StrLawsIn
import PyProof.StrBlockI
import PyProof.Rows.StrNews
import PyProof.EnumMake
import PyProof.EnumFor
import PyProof.EnumStmt
import PyProof.Rows.SetFrom
import PyProof.MinMaxWalk
import PyProof.WalkInts
import PyProof.FactsAll.tuple_1
import PyProof.FactsAll.tuple_2
import PySem.Challenge.RW_slidecut_k21_marks_of_the_same
set_option Elab.async false
set_option linter.all false
/-! What is seen of the heap behind the top, by names. Stands ahead of the layer: what the kernel reckons there wants room. -/
namespace L3
open PySem PySem.W
/-- a name of the top, as nsIn sees it -/
def nsH (h : Heap) (name : Str) : Option (Option Value) := match h.get? mainGlobals with
  | some ⟨_, _, .dict es _, _⟩ => (match es.toList.find? (·.key.isStr name) with
      | some e => some (some e.val)
      | none => if es.toList.any (·.refKey) then none else some none)
  | _ => none
def cdH (h : Heap) (cd : Value) (q : Str) : Bool := match cd with
  | .ref c => (match h.get? c with
      | some ⟨_, _, .fields vs, _⟩ => (match vs.toList with | _ :: .str n _ :: _ => n == q | _ => false)
      | _ => false)
  | _ => false
/-- what is seen of a def: all that stands in its text -/
def seeF (h : Heap) (x : Str) : Option (Str × Str × Arguments × FuncBody × Scope × Addr × List (Str × Addr) × Value × Addr × Bool) := match nsH h x with
  | some (some (.ref f)) => (match h.get? f with
    | some ⟨_, _, .func fd, _⟩ => some (fd.name, fd.qualname, fd.params, fd.body, fd.scope, fd.globals, fd.closure, fd.defaults, fd.builtins, cdH h fd.code x)
    | _ => none)
  | _ => none
def dueF (x : Str) (st : Stmt) : Option (Str × Str × Arguments × FuncBody × Scope × Addr × List (Str × Addr) × Value × Addr × Bool) := match st with
  | .FunctionDef _ a b _ _ _ sc _ _ _ => some (x, x, a, .stmts b, sc, mainGlobals, [], .none, builtinsNs, true)
  | _ => some (x, x, ⟨[], [], none, [], [], none, []⟩, .stmts [], { kind := .function, names := [], isGenerator := false, isCoroutine := false }, mainGlobals, [], .none, builtinsNs, true)
def seeT (h : Heap) (x : Str) : Option (Str × Int × Int) := match nsH h x with
  | some (some (.ref p)) => (match h.get? p with
    | some ⟨.type "tuple", _, .seq its _, _⟩ => (match its.toList with | [.int i _, .int j _] => some (x, i, j) | _ => none)
    | _ => none)
  | _ => none
def seeC (h : Heap) (x : Str) : Option (Str × (Int ⊕ Str)) := match nsH h x with
  | some (some (.int i _)) => some (x, .inl i)
  | some (some (.str s _)) => some (x, .inr s)
  | _ => none
abbrev nF (x : Str) (s : Stmt) : Str × Stmt := (x, s)
structure Tabs where
  fs : List (Str × Stmt)
  bs : List Str
  ts : List (Str × Int × Int)
  cs : List (Str × (Int ⊕ Str))
abbrev Seen : Type := List (Option (Str × Str × Arguments × FuncBody × Scope × Addr × List (Str × Addr) × Value × Addr × Bool)) × List (Option (Option Value)) × List (Option (Str × Int × Int)) × List (Option (Str × (Int ⊕ Str)))
def obsH (t : Tabs) (s : Shared) : Seen := (t.fs.map fun p => seeF s.heap p.1, t.bs.map fun b => nsH s.heap b, t.ts.map fun p => seeT s.heap p.1, t.cs.map fun p => seeC s.heap p.1)
def valH (t : Tabs) (_ : World) : Seen := (t.fs.map fun p => dueF p.1 p.2, t.bs.map fun _ => some none, t.ts.map fun p => some p, t.cs.map fun p => some p)
theorem map_two {α β γ : Type} {E : Option α} {F : α → β × γ} {a : β × γ} (h1 : E.map (fun s => (F s).1) = some a.1) (h2 : E.map (fun s => (F s).2) = some a.2) : E.map F = some a := by
  cases E with
  | none => cases h1
  | some x =>
    have e1 := Option.some.inj h1
    have e2 := Option.some.inj h2
    exact congrArg some (Prod.ext e1 e2)
theorem left_of {p q : Program} {loose : List Str} {Xt : Shared → Bool} {α : Type} {Yf : Shared → α} {Ya : World → α} {N : Nat} (h1 : ∀ w : World, (openEnds treeTable p w N).map (fun s => (openSeen q loose (importedModules p.main.body) Xt true s).1) = some (openGood q loose).1)
    (h2 : ∀ w : World, (openEnds treeTable p w N).map (fun s => (openSeen q loose (importedModules p.main.body) Xt true s).2) = some (openGood q loose).2) (h3 : ∀ w : World, (openEnds treeTable p w N).map Yf = some (Ya w)) : LeftO p q loose Xt Yf Ya N :=
  fun w => map_two (F := fun s => (openSeen q loose (importedModules p.main.body) Xt true s, Yf s)) (a := (openGood q loose, Ya w)) (map_two (h1 w) (h2 w)) (h3 w)
end L3
namespace Cut
open PySem L3
def top (i : Nat) : Stmt := PySem.Challenge.pw_slidecut_k21_marks_of_the_same.main.body.getD i (.Pass ⟨0, 0, 0, 0⟩)
abbrev s_greatest_divisor : Stmt := top 4
abbrev s_ratio : Stmt := top 5
abbrev s_plus : Stmt := top 6
abbrev s_slid : Stmt := top 8
abbrev s_step_to : Stmt := top 9
abbrev s_turned : Stmt := top 10
abbrev s_sides_of : Stmt := top 12
abbrev s_way_of : Stmt := top 14
abbrev s_marks : Stmt := top 15
abbrev s_law_cell : Stmt := top 17
abbrev s_law_bag : Stmt := top 18
abbrev s_law_draw : Stmt := top 19
abbrev s_law_measure : Stmt := top 20
abbrev s_law_low : Stmt := top 21
abbrev s_law_spot : Stmt := top 22
abbrev s_law_star : Stmt := top 23
abbrev s_law_steps : Stmt := top 24
abbrev s_law_rings : Stmt := top 25
abbrev s_law_cloth : Stmt := top 26
abbrev s_law_told : Stmt := top 27
abbrev s_law_moved : Stmt := top 31
abbrev s_law_tilted : Stmt := top 32
abbrev s_law_one_more : Stmt := top 33
abbrev s_law_way_tilted : Stmt := top 34
abbrev s_law_due : Stmt := top 35
abbrev s_law_come_to_nothing : Stmt := top 36
abbrev s_law_right : Stmt := top 37
abbrev s_law : Stmt := top 38
def tabs : Tabs := ⟨[nF "greatest_divisor" s_greatest_divisor, nF "ratio" s_ratio, nF "plus" s_plus, nF "slid" s_slid, nF "step_to" s_step_to, nF "turned" s_turned, nF "sides_of" s_sides_of, nF "way_of" s_way_of, nF "marks" s_marks, nF "_law_cell" s_law_cell, nF "_law_bag" s_law_bag, nF "_law_draw" s_law_draw, nF "_law_measure" s_law_measure, nF "_law_low" s_law_low, nF "_law_spot" s_law_spot, nF "_law_star" s_law_star, nF "_law_steps" s_law_steps, nF "_law_rings" s_law_rings, nF "_law_cloth" s_law_cloth, nF "_law_told" s_law_told, nF "_law_moved" s_law_moved, nF "_law_tilted" s_law_tilted, nF "_law_one_more" s_law_one_more, nF "_law_way_tilted" s_law_way_tilted, nF "_law_due" s_law_due, nF "_law_come_to_nothing" s_law_come_to_nothing, nF "_law_right" s_law_right, nF "law" s_law], ["len", "abs", "int", "bool", "tuple", "isinstance", "range", "all", "sum", "list", "ValueError", "zip", "str", "enumerate", "set", "max", "min", "sorted"], [], []⟩
open PySem.W in
set_option maxRecDepth 100000 in
set_option maxHeartbeats 0 in
theorem said : (PySem.Challenge.rw_slidecut_k21_marks_of_the_same).wellSaid = true := by kernel_rfl
open PySem.W in
set_option maxRecDepth 100000 in
set_option maxHeartbeats 0 in
theorem left1 : ∀ w : World, (openEnds treeTable (PySem.Challenge.rw_slidecut_k21_marks_of_the_same).row.prog w 20000).map (fun s => (openSeen PySem.Challenge.pw_slidecut_k21_marks_of_the_same [] (importedModules (PySem.Challenge.rw_slidecut_k21_marks_of_the_same).row.prog.main.body) (fun s => xlAt PySem.Challenge.pw_slidecut_k21_marks_of_the_same [] s && recOk (RowW.records (OpenRow.toRowW (PySem.Challenge.rw_slidecut_k21_marks_of_the_same).row)) s) true s).1) = some (openGood PySem.Challenge.pw_slidecut_k21_marks_of_the_same []).1 := fun w => by kernel_rfl
open PySem.W in
set_option maxRecDepth 100000 in
set_option maxHeartbeats 0 in
theorem left2 : ∀ w : World, (openEnds treeTable (PySem.Challenge.rw_slidecut_k21_marks_of_the_same).row.prog w 20000).map (fun s => (openSeen PySem.Challenge.pw_slidecut_k21_marks_of_the_same [] (importedModules (PySem.Challenge.rw_slidecut_k21_marks_of_the_same).row.prog.main.body) (fun s => xlAt PySem.Challenge.pw_slidecut_k21_marks_of_the_same [] s && recOk (RowW.records (OpenRow.toRowW (PySem.Challenge.rw_slidecut_k21_marks_of_the_same).row)) s) true s).2) = some (openGood PySem.Challenge.pw_slidecut_k21_marks_of_the_same []).2 := fun w => by kernel_rfl
open PySem.W in
set_option maxRecDepth 100000 in
set_option maxHeartbeats 0 in
theorem left3 : ∀ w : World, (openEnds treeTable (PySem.Challenge.rw_slidecut_k21_marks_of_the_same).row.prog w 20000).map (obsH tabs) = some (valH tabs w) := fun w => by kernel_rfl
open PySem.W in
set_option maxRecDepth 100000 in
set_option maxHeartbeats 0 in
theorem left : LeftO (PySem.Challenge.rw_slidecut_k21_marks_of_the_same).row.prog PySem.Challenge.pw_slidecut_k21_marks_of_the_same [] (fun s => xlAt PySem.Challenge.pw_slidecut_k21_marks_of_the_same [] s && recOk (RowW.records (OpenRow.toRowW (PySem.Challenge.rw_slidecut_k21_marks_of_the_same).row)) s) (obsH tabs) (valH tabs) 20000 := left_of (p := (PySem.Challenge.rw_slidecut_k21_marks_of_the_same).row.prog) (q := PySem.Challenge.pw_slidecut_k21_marks_of_the_same) (loose := []) (Xt := (fun s => xlAt PySem.Challenge.pw_slidecut_k21_marks_of_the_same [] s && recOk (RowW.records (OpenRow.toRowW (PySem.Challenge.rw_slidecut_k21_marks_of_the_same).row)) s)) (Yf := obsH tabs) (Ya := valH tabs) (N := 20000) left1 left2 left3
end Cut
set_option Elab.async false
set_option linter.all false
set_option maxRecDepth 100000
/-! THE HAND LAYER, for ints, bools, texts, own classes, LISTS and tuples (index, slices, in, append, pop ..), calls, loops. Paste it whole ahead of your own text; what your proof does not reach may be deleted. -/
namespace L2
open PySem PySem.Spec PyProof.Rows

/-- a key: an int or a str -/
abbrev Key := Sum Int Str
def keyIs : Key → Value → Bool
  | .inl k, v => Value.isInt k v
  | .inr x, v => Value.isStrOf x v
def keyH (w : World) : Key → Int
  | .inl k => hashInt k
  | .inr x => hashStr w x
theorem keyIs_shape : ∀ {k : Key} {v : Value}, keyIs k v = true → (∃ i t, k = Sum.inl i ∧ v = Value.int i t) ∨ (∃ x t, k = Sum.inr x ∧ v = Value.str x t)
  | .inl i, v, h => by
    obtain ⟨t, e⟩ := Value.isInt_shape (k := i) (v := v) h
    exact .inl ⟨i, t, rfl, e⟩
  | .inr x, v, h => by
    obtain ⟨t, e⟩ := Value.isStrOf_shape (x := x) (v := v) h
    exact .inr ⟨x, t, rfl, e⟩
theorem key_ll (a b : Int) : decide ((Sum.inl a : Key) = Sum.inl b) = (a == b) := by
  by_cases e : a = b
  · subst e; simp
  · have h : ¬ (Sum.inl a : Key) = Sum.inl b := fun q => e (Sum.inl.inj q)
    rw [decide_eq_false h]
    exact (beq_eq_false_iff_ne.mpr e).symm
theorem key_rr (a b : Str) : decide ((Sum.inr a : Key) = Sum.inr b) = decide (a = b) := by
  by_cases e : a = b
  · subst e; simp
  · have h : ¬ (Sum.inr a : Key) = Sum.inr b := fun q => e (Sum.inr.inj q)
    rw [decide_eq_false h, decide_eq_false e]
theorem key_lr (a : Int) (b : Str) : decide ((Sum.inl a : Key) = Sum.inr b) = false := decide_eq_false (fun q => nomatch q)
theorem key_rl (a : Str) (b : Int) : decide ((Sum.inr a : Key) = Sum.inl b) = false := decide_eq_false (fun q => nomatch q)

def mixKind (prog : Program) (w : World) : PySem.KeyKind prog w Key where
  is := keyIs
  hash := keyH w
  inj := fun v a b ha hb => by
    rcases keyIs_shape ha with ⟨i, t, rfl, rfl⟩ | ⟨x, t, rfl, rfl⟩
    · rcases keyIs_shape hb with ⟨j, u, rfl, e⟩ | ⟨y, u, rfl, e⟩
      · injection e with e1 _; rw [e1]
      · exact nomatch e
    · rcases keyIs_shape hb with ⟨j, u, rfl, e⟩ | ⟨y, u, rfl, e⟩
      · exact nomatch e
      · injection e with e1 _; rw [e1]
  byValue := fun k v h => by
    rcases keyIs_shape h with ⟨i, t, rfl, rfl⟩ | ⟨x, t, rfl, rfl⟩ <;> rfl
  pyHash := fun hv h => by
    rcases keyIs_shape hv with ⟨i, t, rfl, rfl⟩ | ⟨x, t, rfl, rfl⟩
    · exact wpAny_pyHash_int h
    · exact wpAny_pyHash_str h
  eqBool := fun hu hv h => by
    rcases keyIs_shape hu with ⟨i, t, rfl, rfl⟩ | ⟨x, t, rfl, rfl⟩
    · rcases keyIs_shape hv with ⟨j, u, rfl, rfl⟩ | ⟨y, u, rfl, rfl⟩
      · rw [key_ll] at h; exact wpAny_eqBool_int h
      · rw [key_lr] at h; exact SeqAt.EqAt.int_str i t y u _ _ _ _ h
    · rcases keyIs_shape hv with ⟨j, u, rfl, rfl⟩ | ⟨y, u, rfl, rfl⟩
      · rw [key_rl] at h; exact SeqAt.EqAt.str_int x t j u _ _ _ _ h
      · rw [key_rr] at h; exact wpAny_eqBool_str h
  «strs» := fun k x t v h => by
    rcases keyIs_shape h with ⟨i, u, rfl, e⟩ | ⟨y, u, rfl, e⟩
    · exact nomatch e
    · injection e with e1 _
      subst e1
      cases v <;> rfl

end L2

namespace L2
open PySem PySem.Spec PyProof.Rows

/-- a value, without the heap -/
inductive V where
  | non | bl (b : Bool) | int (i : Int) | str (x : Str) | byt (b : Array UInt8) | flt (b : UInt64) | ref (a : Addr) | ty (n : String)
  deriving DecidableEq

def RelV : V → Value → Prop
  | .non, u => u = Value.none
  | .bl b, u => u = Value.bool b
  | .int i, u => ∃ t, u = Value.int i t
  | .str x, u => ∃ t, u = Value.str x t
  | .byt b, u => ∃ t, u = Value.bytes b t
  | .flt b, u => ∃ t, u = Value.float b t
  | .ref a, u => u = Value.ref a
  | .ty n, u => u = Value.type n

abbrev Vals : List V → List Value → Prop := Paired RelV
theorem Vals.length {xs : List V} {us : List Value} (r : Vals xs us) : xs.length = us.length := Paired.length r
theorem Vals.get : ∀ {xs : List V} {us : List Value} {i : Nat} {x : V}, Vals xs us → xs[i]? = some x → ∃ u, us[i]? = some u ∧ RelV x u
  | _, _, _, _, .nil, e => by simp at e
  | _, _, 0, _, .cons r _, e => by simp at e; subst e; exact ⟨_, rfl, r⟩
  | _, _, i + 1, x, .cons _ t, e => by
    obtain ⟨u, h1, h2⟩ := Vals.get (i := i) (x := x) t (by simpa using e)
    exact ⟨u, by simpa using h1, h2⟩
theorem Vals.set {x : V} {u : Value} (r : RelV x u) : ∀ {xs : List V} {us : List Value} (i : Nat), Vals xs us → Vals (xs.set i x) (us.set i u)
  | _, _, _, .nil => .nil
  | _, _, 0, .cons _ t => .cons r t
  | _, _, i + 1, .cons q t => .cons q (Vals.set r i t)
theorem Vals.append : ∀ {xs ys : List V} {us ws : List Value}, Vals xs us → Vals ys ws → Vals (xs ++ ys) (us ++ ws)
  | _, _, _, _, .nil, s => s
  | _, _, _, _, .cons r t, s => .cons r (Vals.append t s)
theorem Vals.take : ∀ {xs : List V} {us : List Value} (n : Nat), Vals xs us → Vals (xs.take n) (us.take n)
  | _, _, 0, _ => .nil
  | _, _, _ + 1, .nil => .nil
  | _, _, n + 1, .cons r t => .cons r (Vals.take n t)
theorem Vals.drop : ∀ {xs : List V} {us : List Value} (n : Nat), Vals xs us → Vals (xs.drop n) (us.drop n)
  | _, _, 0, r => r
  | _, _, _ + 1, .nil => .nil
  | _, _, n + 1, .cons _ t => Vals.drop n t
def RelO : Option V → Option Value → Prop
  | some v, some u => RelV v u
  | none, none => True
  | _, _ => False
def KV {κ : Type} : List (κ × V) → List (κ × Value) → Prop := Paired fun (p : κ × V) (q : κ × Value) => p.1 = q.1 ∧ RelV p.2 q.2

/-- a key of a dict (00_mix): an int or a text -/
def kV : Key → V
  | .inl i => .int i
  | .inr x => .str x

/-- what stands at a tracked address -/
inductive HO where
  /-- a list -/
  | lst (xs : List V)
  /-- a tuple (never changes) -/
  | tup (xs : List V)
  /-- a dict whose keys are ints and texts; one whose keys are tuples of ints and texts (the empty one is both) -/
  | dK (kvs : List (Key × V)) | dT (kvs : List (List Key × V))
  /-- a set of ints: its members, its size -/
  | set (S : Int → Bool) (n : Nat)
  /-- an instance of the class at C, its dict at dx, its attributes -/
  | ins (C dx : Addr) (fs : List (Str × V))
  /-- the dict of the instance at x -/
  | own (x : Addr)
  /-- the dict of an exception -/
  | xd (fs : List (Str × V))
  /-- a bound method, f of x -/
  | met (f x : Addr)
  /-- a range object lo, lo + 1, .. below hi -/
  | rng (lo hi : Int)
  /-- a thing that is known to the object (the script; a dict while a loop walks it): read, never written while it is so -/
  | frz (o : Obj) (u : HO)
  /-- a code object's table -/
  | tbl (ps : Array Value)
  /-- any other thing, by what is true of its one object (a def of one's own: SetO a S n := HO.ext fun h => ..) -/
  | ext (φ : Heap → Prop)

abbrev Hp := Addr → Option HO
def upd (H : Hp) (a : Addr) (o : HO) : Hp := fun b => if b = a then some o else H b
theorem upd_same {H : Hp} {a : Addr} {o : HO} : upd H a o a = some o := by unfold upd; rw [if_pos rfl]
theorem upd_ne {H : Hp} {a b : Addr} {o : HO} (h : b ≠ a) : upd H a o b = H b := by unfold upd; rw [if_neg h]
theorem ne_of_none {H : Hp} {a b : Addr} {o : HO} (h : H a = some o) (h' : H b = none) : a ≠ b := by
  intro e; subst e; rw [h] at h'; cases h'

section
variable (P : Program) (w : World)
def ObjOk (H : Hp) (h : Heap) (a : Addr) : HO → Prop
  | .lst xs => xs.length ≤ sizeLine ∧ ∃ (its : List Value) (n : Nat), Vals xs its ∧ h.get? a = some { cls := .type "list", data := .seq its.toArray n }
  | .tup xs => xs.length ≤ sizeLine ∧ ∃ its : List Value, Vals xs its ∧ IsTup h a its.toArray
  | .dK kvs => kvs.length ≤ sizeLine ∧ (a == sysModules) = false ∧ ∃ vs, KV kvs vs ∧ h.DictOf (mixKind P w) a vs
  | .dT kvs => kvs.length ≤ sizeLine ∧ (a == sysModules) = false ∧ ∃ xs : List (List Key × Addr × Value),
      Paired (fun (p : List Key × V) (q : List Key × Addr × Value) => p.1 = q.1 ∧ H q.2.1 = some (.tup (p.1.map kV)) ∧ RelV p.2 q.2.2) kvs xs ∧
      ∃ o es ep, h.get? a = some o ∧ o.ExactDict ∧ o.data = .dict es ep ∧ es.toList = xs.map (entryOfKey (tupleKind (mixKind P w))) ∧ (xs.map (·.1)).Nodup
  | .set S n => h.SetOf (intKind P w) a S n
  | .ins C dx fs => H dx = some (.own a) ∧ fs.length ≤ 1000 ∧ dx ≠ a ∧ h.get? a = some (PySem.W.instObj C dx) ∧
      ∃ mA, h.Ns1 dx mA ∧ (∀ f, RelO (fs.lookup f) (mA f)) ∧ PySem.Within mA (fs.map (·.1))
  | .own _ => ∃ o, h.get? a = some o
  | .xd fs => ∃ mA, h.Ns1 a mA ∧ ∀ f, RelO (fs.lookup f) (mA f)
  | .rng lo hi => ∃ t u v, h.get? a = some { cls := .type "range", data := .fields #[.int lo t, .int hi u, .int 1 v] }
  | .frz o u => h.get? a = some o ∧ ObjOk H h a u
  | .tbl ps => h.get? a = some { cls := .none, data := .fields ps }
  | .met f x => h.get? a = some (PySem.W.methodObj (.ref f) (.ref x))
  | .ext φ => φ h ∧ (∃ o, h.get? a = some o) ∧ ∀ h1 h2 : Heap, φ h1 → (∀ o, h1.get? a = some o → h2.get? a = some o) → φ h2
/-- the abstract heap is held -/
def HOk (H : Hp) (h : Heap) : Prop := ∀ a o, H a = some o → ObjOk P w H h a o
end

section
variable {P : Program} {w : World} {H H' : Hp} {h h' : Heap} {a : Addr} {o : HO}
theorem ObjOk.lt (x : ObjOk P w H h a o) : a < h.objs.size := by
  cases o with
  | lst xs => obtain ⟨_, _, _, _, e⟩ := x; exact Heap.lt_size e
  | tup xs => obtain ⟨_, _, _, p⟩ := x; exact p.lt
  | dK kvs => obtain ⟨_, _, _, _, o, _, _, e, _⟩ := x; exact Heap.lt_size e
  | dT kvs => obtain ⟨_, _, _, _, o, _, _, e, _⟩ := x; exact Heap.lt_size e
  | set S n => obtain ⟨o, _, _, _, e, _⟩ := x; exact Heap.lt_size e
  | ins C dx fs => obtain ⟨_, _, _, e, _⟩ := x; exact Heap.lt_size e
  | own y => obtain ⟨_, e⟩ := x; exact Heap.lt_size e
  | xd fs => obtain ⟨_, ⟨_, _, _, e, _⟩, _⟩ := x; exact Heap.lt_size e
  | rng lo hi => obtain ⟨_, _, _, e⟩ := x; exact Heap.lt_size e
  | frz ob u => obtain ⟨e, _⟩ := x; exact Heap.lt_size e
  | tbl ps => exact Heap.lt_size (show h.get? a = some _ from x)
  | met f y => exact Heap.lt_size (show h.get? a = some _ from x)
  | ext φ => obtain ⟨_, ⟨_, e⟩, _⟩ := x; exact Heap.lt_size e
theorem Paired.mapP {α β : Type} {F G : α → β → Prop} : ∀ {l₁ : List α} {l₂ : List β}, Paired F l₁ l₂ → (∀ a b, F a b → G a b) → Paired G l₁ l₂
  | _, _, .nil, _ => .nil
  | _, _, .cons r t, f => .cons (f _ _ r) (Paired.mapP t f)
/-- what an object's description leans on: its own object, its own dict, the tuples -/
theorem ObjOk.stay (x : ObjOk P w H h a o) (k : ∀ b u, (b = a ∨ H b = some (.own a)) → h.get? b = some u → h'.get? b = some u)
    (ho : ∀ b, H b = some (.own a) → H' b = some (.own a)) (ht : ∀ b xs, H b = some (.tup xs) → H' b = some (.tup xs)) : ObjOk P w H' h' a o := by
  induction o with
  | lst xs => obtain ⟨z, its, n, r, e⟩ := x; exact ⟨z, its, n, r, k _ _ (.inl rfl) e⟩
  | tup xs => obtain ⟨z, its, r, ob, e, c⟩ := x; exact ⟨z, its, r, ob, k _ _ (.inl rfl) e, c⟩
  | dK kvs => obtain ⟨z, y, vs, r, ob, es, ep, e, c⟩ := x; exact ⟨z, y, vs, r, ob, es, ep, k _ _ (.inl rfl) e, c⟩
  | dT kvs =>
    obtain ⟨z, y, xs, r, ob, es, ep, e, c⟩ := x
    exact ⟨z, y, xs, Paired.mapP r fun p q z => ⟨z.1, ht _ _ z.2.1, z.2.2⟩, ob, es, ep, k _ _ (.inl rfl) e, c⟩
  | set S n => obtain ⟨ob, es, ep, t, e, c⟩ := x; exact ⟨ob, es, ep, t, k _ _ (.inl rfl) e, c⟩
  | ins C dx fs =>
    obtain ⟨d, z, ne, e, mA, ⟨od, es, ep, e2, c⟩, r⟩ := x
    exact ⟨ho _ d, z, ne, k _ _ (.inl rfl) e, mA, ⟨od, es, ep, k _ _ (.inr d) e2, c⟩, r⟩
  | own y => obtain ⟨ob, e⟩ := x; exact ⟨ob, k _ _ (.inl rfl) e⟩
  | xd fs => obtain ⟨mA, ⟨od, es, ep, e, c⟩, r⟩ := x; exact ⟨mA, ⟨od, es, ep, k _ _ (.inl rfl) e, c⟩, r⟩
  | rng lo hi => obtain ⟨t, u, v, e⟩ := x; exact ⟨t, u, v, k _ _ (.inl rfl) e⟩
  | frz ob u ih => obtain ⟨e, q⟩ := x; exact ⟨k _ _ (.inl rfl) e, ih q⟩
  | tbl ps =>
    have e : h.get? a = some { cls := .none, data := .fields ps } := x
    show h'.get? a = some { cls := .none, data := .fields ps }
    exact k a _ (.inl rfl) e
  | met f y =>
    have e : h.get? a = some (PySem.W.methodObj (.ref f) (.ref y)) := x
    show h'.get? a = some (PySem.W.methodObj (.ref f) (.ref y))
    exact k a _ (.inl rfl) e
  | ext φ => obtain ⟨p, ⟨o, e⟩, st⟩ := x; exact ⟨st _ _ p fun o q => k _ _ (.inl rfl) q, ⟨o, k _ _ (.inl rfl) e⟩, st⟩
theorem HOk.lt (x : HOk P w H h) (e : H a = some o) : a < h.objs.size := (x a o e).lt
theorem HOk.fresh (x : HOk P w H h) (e : h.objs.size ≤ a) : H a = none := by
  cases q : H a with
  | none => rfl
  | some u => exact absurd (Nat.lt_of_lt_of_le (x.lt q) e) (Nat.lt_irrefl _)
/-- every object of the heap is kept -/
theorem HOk.kept (x : HOk P w H h) (k : ∀ b u, h.get? b = some u → h'.get? b = some u) : HOk P w H h' := fun a o e =>
  (x a o e).stay (fun b u _ q => k b u q) (fun _ q => q) fun _ _ q => q
/-- a new object is laid and tracked -/
theorem HOk.laid (x : HOk P w H h) (k : ∀ b u, h.get? b = some u → h'.get? b = some u) (hp : h.objs.size ≤ a) (new : ObjOk P w (upd H a o) h' a o) : HOk P w (upd H a o) h' := fun b u e => by
  have hn := x.fresh hp
  by_cases hb : b = a
  · subst hb; rw [upd_same] at e; cases e; exact new
  · rw [upd_ne hb] at e
    exact (x b u e).stay (fun c v _ q => k c v q) (fun c q => by rw [upd_ne (ne_of_none q hn)]; exact q) fun c xs q => by rw [upd_ne (ne_of_none q hn)]; exact q
end

/-- what may be read as u: it is u, or a known u -/
def Rd (H : Hp) (a : Addr) (u : HO) : Prop := H a = some u ∨ ∃ o, H a = some (.frz o u)
theorem Rd.ok {P : Program} {w : World} {H : Hp} {h : Heap} {a : Addr} {u : HO} (r : Rd H a u) (x : HOk P w H h) : ObjOk P w H h a u := by
  rcases r with r | ⟨o, r⟩
  · exact x a u r
  · obtain ⟨_, q⟩ := x a _ r
    exact q
/-- what may be written -/
def Mut : Option HO → Prop
  | some (.lst _) => True
  | some (.dK _) => True
  | some (.dT _) => True
  | some (.set _ _) => True
  | some (.ins _ _ _) => True
  | some (.ext _) => True
  | _ => False
section
variable {P : Program} {w : World} {H : Hp} {h h' : Heap} {x e : Addr} {o' : HO}
/-- the object at e is changed: x itself, or the dict of the instance x -/
theorem HOk.write (ok : HOk P w H h) (mu : Mut (H x)) (he : e = x ∨ H e = some (.own x)) (k : ∀ b u, b ≠ e → h.get? b = some u → h'.get? b = some u) (heo : ∃ u, h'.get? e = some u)
    (new : ObjOk P w (upd H x o') h' x o') : HOk P w (upd H x o') h' := fun b u q => by
  have nown : ∀ c y, H c = some (.own y) → c ≠ x := fun c y r z => by subst z; rw [r] at mu; exact mu
  have ntup : ∀ c xs, H c = some (.tup xs) → c ≠ x := fun c xs r z => by subst z; rw [r] at mu; exact mu
  by_cases hb : b = x
  · subst hb; rw [upd_same] at q; cases q; exact new
  · rw [upd_ne hb] at q
    by_cases hbe : b = e
    · have q' : H b = some (.own x) := by
        rcases he with z | z
        · exact absurd (hbe.trans z) hb
        · rw [hbe]; exact z
      rw [q] at q'; cases q'
      obtain ⟨v, hv⟩ := heo
      exact ⟨v, by rw [hbe]; exact hv⟩
    · refine (ok b u q).stay (fun c v hc r => k c v ?_ r) (fun c r => by rw [upd_ne (nown c b r)]; exact r) fun c xs r => by rw [upd_ne (ntup c xs r)]; exact r
      rcases hc with rfl | hc
      · exact hbe
      · rintro rfl
        rcases he with z | z
        · exact nown c b hc z
        · rw [hc] at z; cases z; exact hb rfl
end

/-! ### kept unless tracked; of the frames at fs (the callers') the slots may change (an exception that passes writes there); of the records at ex (iterators) nothing is said -/
structure Un (fs ex : List Addr) (H H' : Hp) (h h' : Heap) : Prop where
  keep : ∀ b o, h.get? b = some o → H b = none → b ∉ fs → b ∉ ex → h'.get? b = some o
  slot : ∀ b o, h.get? b = some o → H b = none → b ∈ fs → b ∉ ex → ∃ sl, h'.get? b = some { o with slots := sl }
  free : ∀ b o, h.get? b = some o → H b = none → b ∉ ex → H' b = none
  there : ∀ b o, h.get? b = some o → b ∉ ex → ∃ o', h'.get? b = some o'
  tups : ∀ b xs, H b = some (.tup xs) → H' b = some (.tup xs)
  frzs : ∀ b o u, H b = some (.frz o u) → H' b = some (.frz o u)
  tbls : ∀ b ps, H b = some (.tbl ps) → ∃ more, H' b = some (.tbl (ps ++ more))
section
variable {fs fs' ex ex' : List Addr} {H H1 H2 : Hp} {h h1 h2 h' : Heap} {a x e : Addr} {o : HO}
theorem Un.any (u : Un fs ex H H1 h h1) {b : Addr} {ob : Obj} (q : h.get? b = some ob) (n : H b = none) (hx : b ∉ ex) : ∃ sl, h1.get? b = some { ob with slots := sl } := by
  by_cases hb : b ∈ fs
  · exact u.slot b ob q n hb hx
  · exact ⟨ob.slots, u.keep b ob q n hb hx⟩
theorem Un.kept (k : ∀ b u, h.get? b = some u → h'.get? b = some u) : Un fs ex H H h h' :=
  ⟨fun b ob q _ _ _ => k b ob q, fun b ob q _ _ _ => ⟨ob.slots, k b ob q⟩, fun _ _ _ n _ => n, fun b ob q _ => ⟨ob, k b ob q⟩, fun _ _ q => q, fun _ _ _ q => q, fun _ ps q => ⟨#[], by rw [q]; simp⟩⟩
theorem Un.refl : Un fs ex H H h h := Un.kept fun _ _ q => q
theorem Un.laid (k : ∀ b u, h.get? b = some u → h'.get? b = some u) (hp : h.objs.size ≤ a) (hn : H a = none) : Un fs ex H (upd H a o) h h' where
  keep := fun b u q _ _ _ => k b u q
  slot := fun b u q _ _ _ => ⟨u.slots, k b u q⟩
  free := fun b u q n _ => by rw [upd_ne (Nat.ne_of_lt (Nat.lt_of_lt_of_le (Heap.lt_size q) hp))]; exact n
  there := fun b u q _ => ⟨u, k b u q⟩
  tups := fun b xs q => by rw [upd_ne (ne_of_none q hn)]; exact q
  frzs := fun b u xs q => by rw [upd_ne (ne_of_none q hn)]; exact q
  tbls := fun b ps q => ⟨#[], by rw [upd_ne (ne_of_none q hn), q]; simp⟩
theorem Un.write (mu : Mut (H x)) (he : e = x ∨ H e = some (.own x)) (k : ∀ b u, b ≠ e → h.get? b = some u → h'.get? b = some u) (heo : ∃ u, h'.get? e = some u) : Un fs ex H (upd H x o) h h' := by
  have hx : ∀ b, H b = none → b ≠ x := fun b n z => by subst z; rw [n] at mu; exact mu
  have hb : ∀ b, H b = none → b ≠ e := fun b n z => by
    subst z
    rcases he with r | r
    · exact hx b n r
    · rw [n] at r; cases r
  have hm : ∀ b u, H b = some u → ¬ Mut (some u) → b ≠ x := fun b u q nm z => by subst z; rw [q] at mu; exact nm mu
  refine ⟨fun b u q n _ _ => k b u (hb b n) q, fun b u q n _ _ => ⟨u.slots, k b u (hb b n) q⟩, fun b u q n _ => by rw [upd_ne (hx b n)]; exact n, fun b u q _ => ?_,
    fun b xs q => by rw [upd_ne (hm b _ q fun z => z)]; exact q, fun b u xs q => by rw [upd_ne (hm b _ q fun z => z)]; exact q, fun b ps q => ⟨#[], by rw [upd_ne (hm b _ q fun z => z), q]; simp⟩⟩
  by_cases hbe : b = e
  · subst hbe; exact heo
  · exact ⟨u, k b u hbe q⟩
end

/-! ### the heap without what is tracked -/
def trk (h : Heap) (H : Hp) : List Addr := (List.range h.objs.size).filter fun a => (H a).isSome
def hidT (h : Heap) (H : Hp) : Heap := PySem.W.hideAll h (trk h H)
theorem hidT_size (h : Heap) (H : Hp) : (hidT h H).objs.size = h.objs.size := PySem.W.hideAll_size _ _
theorem hidT_get {h : Heap} {H : Hp} {b : Addr} {o : Obj} (e : h.get? b = some o) (n : H b = none) : (hidT h H).get? b = some o :=
  PySem.W.hideAll_get _ e fun hm => by
    have q : (H b).isSome = true := (List.mem_filter.mp hm).2
    rw [n] at q; simp at q
theorem of_hidT {h : Heap} {H : Hp} {b : Addr} {o : Obj} (e : (hidT h H).get? b = some o) : h.get? b = some o ∧ H b = none := by
  have e' : h.get? b = some o := PySem.W.of_hideAll (trk h H) e
  refine ⟨e', ?_⟩
  cases q : H b with
  | none => rfl
  | some x =>
    have hm : b ∈ trk h H := List.mem_filter.mpr ⟨List.mem_range.mpr (Heap.lt_size e'), by simp [q]⟩
    have z : (hidT h H).get? b = none := PySem.W.hideAll_none (trk h H) hm
    rw [z] at e; cases e

end L2

namespace L2
open PySem PySem.Spec PyProof.Rows

/-- the module's facts, over the base: the heap at the law's entry without what is tracked there -/
structure Mod (K : PySem.W.Frag) (mg : Str → Option Value) (base : Heap) : Prop where
  kin : K.In base
  glob : base.Ns mainGlobals mg
  blt : ∃ mb, base.Ns builtinsNs mb ∧ ∀ x : Str, x ≠ "__name__" → mb x = bootBuiltins x
  nolimit : base.NoLimit

/-- the context: a def's body (or a comprehension's block) running. base: fixed through the whole law; s₀, H₀: the entry; outer: the frames whose slots others may change (a def's callers); stack: all frames that run;
   ex: iterators that were made ahead of the entry and are walked here (a comprehension's); fn: the names whose cells were made at the entry (a def: all; a comprehension's block: its own); calm: not within an except suite; pn: pins that every state bears; xe: what is wanted of an exception that leaves the code -/
structure Cx where
  prog : Program
  w : World
  K : PySem.W.Frag
  mg : Str → Option Value
  base : Heap
  A : Around
  N : List Str
  s₀ : Shared
  H₀ : Hp
  env : Env
  outer : List Env
  stack : List Env
  ex : List Addr
  fn : Str → Bool
  calm : Bool
  pn : List (Addr × Obj)
  xe : Value → Shared → Prop
/-- the callers' frames -/
def frs (l : List Env) : List Addr := l.filterMap (·.frame)
abbrev Cx.fs (X : Cx) : List Addr := frs X.outer

def Vis (sc : Scope) (x : Str) : Prop := sc.names.lookup x = some .local ∨ sc.names.lookup x = some .cell ∨ sc.names.lookup x = some .free
def Loc (sc : Scope) (x : Str) : Prop := sc.names.lookup x = some .local ∨ sc.names.lookup x = some .cell
def Look (env : Env) (h : Heap) (m : Str → Option Value) (x : Str) (u : Value) : Prop :=
  (env.kindOf x = some .local ∧ m x = some u) ∨ ((env.kindOf x = some .cell ∨ env.kindOf x = some .free) ∧ ∃ c, env.cells.lookup x = some c ∧ h.IsCell c (some u))

structure Cx.Ok (X : Cx) : Prop where
  mod : Mod X.K X.mg X.base
  kind : X.env.scope.kind = .function
  glob : X.env.globals = mainGlobals
  blt : X.env.builtins = builtinsNs
  above : X.s₀.heap.objs.size ≤ X.env.locals
  inj : ∀ x y c, X.env.cells.lookup x = some c → X.env.cells.lookup y = some c → x = y
  has : ∀ x, (X.env.kindOf x = some .cell ∨ X.env.kindOf x = some .free) → ∃ c, X.env.cells.lookup x = some c
  cab : ∀ x c, X.fn x = true → X.env.cells.lookup x = some c → X.s₀.heap.objs.size ≤ c
  hd : X.calm = true → X.A.handled = none
  frames : X.A.frames = some X.stack
  stk : X.stack = X.outer ∨ (X.stack = X.env :: X.outer ∧ X.env.frame = some X.env.locals)
  exf : ∀ b ∈ X.ex, b ≠ X.env.locals ∧ ∀ x c, X.env.cells.lookup x = some c → c ≠ b
  bs : ∀ b o, X.base.get? b = some o → X.s₀.heap.get? b = some o ∧ X.H₀ b = none
  bsz : X.base.objs.size ≤ X.s₀.heap.objs.size
  noex : ∀ b o, X.base.get? b = some o → b ∉ X.ex
  exfs : ∀ b ∈ X.ex, b ∉ X.fs
  funs : X.s₀.heap.FunFrames X.base X.outer
  frf : ∀ b ∈ X.fs, X.H₀ b = none

structure Inv (X : Cx) (pins : List (Addr × Obj)) (σ : List (Option V)) (H : Hp) (s : Shared) : Prop where
  ok : X.Ok
  os : s.os = X.s₀.os
  bare : AllBare s.gens
  base : Un X.fs X.ex X.H₀ H X.s₀.heap s.heap
  loc : ∃ m, s.heap.Ns X.env.locals m ∧ ∀ (i : Nat) (x : Str) (v : V), X.N[i]? = some x → σ[i]? = some (some v) → Vis X.env.scope x → ∃ u, RelV v u ∧ Look X.env s.heap m x u
  cell : ∀ x c, X.env.cells.lookup x = some c → ∃ v, s.heap.IsCell c v
  free : H X.env.locals = none
  freeC : ∀ x c, X.env.cells.lookup x = some c → H c = none
  pin : ∀ p ∈ X.pn ++ pins, s.heap.get? p.1 = some p.2 ∧ H p.1 = none ∧ p.1 ≠ X.env.locals ∧ p.1 ∉ X.fs ∧ ∀ v, p.2.data ≠ .cell v
  hok : HOk X.prog X.w H s.heap
  len : σ.length = X.N.length

section
variable {X : Cx} {pins : List (Addr × Obj)} {σ : List (Option V)} {H H' : Hp} {s : Shared} {h' : Heap}

theorem Cx.Ok.nofr (ok : X.Ok) {b : Addr} {o : Obj} (e : X.base.get? b = some o) : b ∉ X.fs := fun hb => by
  have := (ok.funs.mem hb).1
  rw [e] at this; cases this
theorem Inv.bs (I : Inv X pins σ H s) : ∀ b o, X.base.get? b = some o → s.heap.get? b = some o ∧ H b = none := fun b o e =>
  ⟨I.base.keep b o (I.ok.bs b o e).1 (I.ok.bs b o e).2 (I.ok.nofr e) (I.ok.noex b o e), I.base.free b o (I.ok.bs b o e).1 (I.ok.bs b o e).2 (I.ok.noex b o e)⟩
theorem Inv.bk (I : Inv X pins σ H s) : ∀ b o, X.base.get? b = some o → s.heap.get? b = some o := fun b o e => (I.bs b o e).1
theorem Inv.mod (I : Inv X pins σ H s) : Mod X.K X.mg X.base := I.ok.mod
theorem Inv.kIn (I : Inv X pins σ H s) : X.K.In s.heap := I.ok.mod.kin.keeps I.bk
theorem Inv.lt (I : Inv X pins σ H s) : X.env.locals < s.heap.objs.size := let ⟨_, hn, _⟩ := I.loc; hn.lt
theorem Inv.sz (I : Inv X pins σ H s) : X.s₀.heap.objs.size ≤ s.heap.objs.size := Nat.le_trans I.ok.above (Nat.le_of_lt I.lt)
theorem Inv.nofs (I : Inv X pins σ H s) {a : Addr} (h : s.heap.objs.size ≤ a) : a ∉ X.fs := fun hb => by
  obtain ⟨_, o, ho, _⟩ := I.ok.funs.mem hb
  exact absurd (Nat.lt_of_lt_of_le (Heap.lt_size ho) (Nat.le_trans I.sz h)) (Nat.lt_irrefl _)
theorem Inv.cne (I : Inv X pins σ H s) : ∀ x c, X.env.cells.lookup x = some c → c ≠ X.env.locals := fun x c e z => by
  obtain ⟨v, o, ho, hd⟩ := I.cell x c e
  obtain ⟨m, ⟨o', es, ep, ho', hd', _⟩, _⟩ := I.loc
  rw [z, ho'] at ho; cases ho; rw [hd'] at hd; cases hd
theorem Inv.funs (I : Inv X pins σ H s) : s.heap.FunFrames X.base X.outer := by
  have all : ∀ (l : List Env), (∀ b ∈ frs l, b ∈ X.fs) → X.s₀.heap.FunFrames X.base l → s.heap.FunFrames X.base l := by
    intro l
    induction l with
    | nil => intro _ _; trivial
    | cons env r ih =>
      intro hs hl
      obtain ⟨hk, ⟨L, o, hf, hn, ho, hd⟩, hr⟩ := hl
      have hL : L ∈ X.fs := hs L (by unfold frs; rw [List.filterMap_cons, hf]; exact List.mem_cons_self)
      obtain ⟨sl, e⟩ := I.base.slot L o ho (I.ok.frf L hL) hL fun z => I.ok.exfs L z hL
      exact ⟨hk, ⟨L, _, hf, hn, e, hd⟩, ih (fun b hb => hs b (by unfold frs; rw [List.filterMap_cons, hf]; exact List.mem_cons_of_mem _ hb)) hr⟩
  exact all X.outer (fun _ hb => hb) I.ok.funs

/-- the frames that run, for a call -/
theorem Inv.stack (I : Inv X pins σ H s) : s.heap.FunFrames X.base X.stack := by
  rcases I.ok.stk with e | ⟨e, hf⟩
  · rw [e]; exact I.funs
  · rw [e]
    obtain ⟨m, hn, _⟩ := I.loc
    refine .cons (by rw [I.ok.kind]; decide) hf hn ?_ I.funs
    exact Heap.get?_none_of_le (Nat.le_trans I.ok.bsz I.ok.above)
theorem Inv.stkSub (I : Inv X pins σ H s) : ∀ b ∈ frs X.stack, b ∈ X.env.locals :: X.fs := fun b hb => by
  rcases I.ok.stk with e | ⟨e, hf⟩
  · rw [e] at hb; exact List.mem_cons_of_mem _ hb
  · rw [e] at hb
    unfold frs at hb
    rw [List.filterMap_cons, hf] at hb
    exact hb
theorem Inv.stkFree (I : Inv X pins σ H s) : ∀ b ∈ frs X.stack, H b = none := fun b hb => by
  rcases List.mem_cons.mp (I.stkSub b hb) with e | hb
  · rw [e]; exact I.free
  · obtain ⟨_, o, ho, _⟩ := I.ok.funs.mem hb
    exact I.base.free b o ho (I.ok.frf b hb) fun z => I.ok.exfs b z hb

/-- THE STEP: the untracked objects but the frame and the records at ch are kept (the callers' frames up to slots), the frame's map is kept, the new abstract heap is held -/
theorem Inv.step {g' : Array GenState} {t' : Nat} {d' : Drawn} {ch : List Addr} (I : Inv X pins σ H s)
    (hch : ∀ b ∈ ch, (b ∈ X.ex ∨ X.s₀.heap.objs.size ≤ b) ∧ b ≠ X.env.locals ∧ (∀ x c, X.env.cells.lookup x = some c → c ≠ b) ∧ ∀ p ∈ X.pn ++ pins, p.1 ≠ b)
    (keep : ∀ b o, b ≠ X.env.locals → b ∉ X.fs → b ∉ ch → s.heap.get? b = some o → H b = none → h'.get? b = some o)
    (slot : ∀ b o, b ≠ X.env.locals → b ∈ X.fs → b ∉ ch → s.heap.get? b = some o → H b = none → ∃ sl, h'.get? b = some { o with slots := sl }) (free : ∀ b o, b ∉ ch → s.heap.get? b = some o → H b = none → H' b = none)
    (there : ∀ b o, b ∉ ch → s.heap.get? b = some o → ∃ o', h'.get? b = some o')
    (tups : ∀ b xs, H b = some (.tup xs) → H' b = some (.tup xs)) (frzs : ∀ b o u, H b = some (.frz o u) → H' b = some (.frz o u)) (tbls : ∀ b ps, H b = some (.tbl ps) → ∃ more, H' b = some (.tbl (ps ++ more)))
    (ns : ∀ m, s.heap.Ns X.env.locals m → h'.Ns X.env.locals m) (hok : HOk X.prog X.w H' h') (hg : AllBare g') :
    Inv X pins σ H' { s with heap := h', gens := g', drawn := d', toks := t' } := by
  have neL : ∀ b o, X.s₀.heap.get? b = some o → b ≠ X.env.locals := fun b o e => Nat.ne_of_lt (Nat.lt_of_lt_of_le (Heap.lt_size e) I.ok.above)
  have neC : ∀ b o, X.s₀.heap.get? b = some o → b ∉ X.ex → b ∉ ch := fun b o e hx hb => by
    rcases (hch b hb).1 with z | z
    · exact hx z
    · exact absurd (Nat.lt_of_lt_of_le (Heap.lt_size e) z) (Nat.lt_irrefl _)
  have cellK : ∀ x c, X.env.cells.lookup x = some c → ∀ v, s.heap.IsCell c v → h'.IsCell c v := fun x c e v ⟨o, ho, hd⟩ => by
    have nch : c ∉ ch := fun z => (hch c z).2.2.1 x c e rfl
    by_cases hc : c ∈ X.fs
    · obtain ⟨sl, q⟩ := slot c o (I.cne x c e) hc nch ho (I.freeC x c e)
      exact ⟨_, q, hd⟩
    · exact ⟨o, keep c o (I.cne x c e) hc nch ho (I.freeC x c e), hd⟩
  refine ⟨I.ok, I.os, hg, ⟨fun b o e n hb hx => ?_, fun b o e n hb hx => ?_, fun b o e n hx => ?_, fun b o e hx => ?_, fun b xs e => tups b xs (I.base.tups b xs e), fun b o xs e => frzs b o xs (I.base.frzs b o xs e), fun b ps e => ?_⟩, ?_, fun x c e => ?_, ?_, fun x c e => ?_, fun p hp => ?_, hok, I.len⟩
  · exact keep b o (neL b o e) hb (neC b o e hx) (I.base.keep b o e n hb hx) (I.base.free b o e n hx)
  · obtain ⟨sl, e1⟩ := I.base.slot b o e n hb hx
    obtain ⟨sl', e2⟩ := slot b _ (neL b o e) hb (neC b o e hx) e1 (I.base.free b o e n hx)
    exact ⟨sl', e2⟩
  · obtain ⟨o', e1⟩ := I.base.there b o e hx
    exact free b o' (neC b o e hx) e1 (I.base.free b o e n hx)
  · obtain ⟨o', e1⟩ := I.base.there b o e hx
    exact there b o' (neC b o e hx) e1
  · obtain ⟨m1, e1⟩ := I.base.tbls b ps e
    obtain ⟨m2, e2⟩ := tbls b _ e1
    exact ⟨m1 ++ m2, by rw [e2, Array.append_assoc]⟩
  · obtain ⟨m, hn, hl⟩ := I.loc
    refine ⟨m, ns m hn, fun i x v e1 e2 e3 => ?_⟩
    obtain ⟨u, r, l⟩ := hl i x v e1 e2 e3
    refine ⟨u, r, ?_⟩
    rcases l with l | ⟨k, c, e, z⟩
    · exact .inl l
    · exact .inr ⟨k, c, e, cellK x c e _ z⟩
  · obtain ⟨v, z⟩ := I.cell x c e
    exact ⟨v, cellK x c e v z⟩
  · obtain ⟨m, ⟨o, _, _, ho, _⟩, _⟩ := I.loc
    exact free _ o (fun z => (hch _ z).2.1 rfl) ho I.free
  · obtain ⟨v, o, ho, hd⟩ := I.cell x c e
    exact free c o (fun z => (hch c z).2.2.1 x c e rfl) ho (I.freeC x c e)
  · obtain ⟨e, n, ne, nf, d⟩ := I.pin p hp
    have nch : p.1 ∉ ch := fun z => (hch p.1 z).2.2.2 p hp rfl
    exact ⟨keep p.1 p.2 ne nf nch e n, free p.1 p.2 nch e n, ne, nf, d⟩
/-- .. where the frame's own object is kept too -/
theorem Inv.un {t' : Nat} (I : Inv X pins σ H s) (u : Un X.fs [] H H' s.heap h') (hok : HOk X.prog X.w H' h') : Inv X pins σ H' { s with heap := h', toks := t' } := by
  obtain ⟨m, ⟨o, es, ep, ho, r⟩, _⟩ := id I.loc
  obtain ⟨sl, hL⟩ := u.any ho I.free (by simp)
  exact I.step (g' := s.gens) (d' := s.drawn) (ch := []) (fun _ z => nomatch z) (fun b o _ hb _ e n => u.keep b o e n hb (by simp)) (fun b o _ hb _ e n => u.slot b o e n hb (by simp)) (fun b o _ e n => u.free b o e n (by simp)) (fun b o _ e => u.there b o e (by simp)) u.tups u.frzs u.tbls (fun m' hm => by
    obtain ⟨o', es', ep', ho', r'⟩ := hm
    rw [ho] at ho'; cases ho'
    exact ⟨_, es', ep', hL, r'⟩) hok I.bare
/-- behind a call (or a comprehension's block): the slots of this frame may have changed too, the records at ch may have turned -/
theorem Inv.call {g' : Array GenState} {t' : Nat} {d' : Drawn} {ch : List Addr} (I : Inv X pins σ H s) (u : Un (frs X.stack) ch H H' s.heap h') (hok : HOk X.prog X.w H' h') (hg : AllBare g')
    (hch : ∀ b ∈ ch, (b ∈ X.ex ∨ X.s₀.heap.objs.size ≤ b) ∧ b ≠ X.env.locals ∧ (∀ x c, X.env.cells.lookup x = some c → c ≠ b) ∧ ∀ p ∈ X.pn ++ pins, p.1 ≠ b) :
    Inv X pins σ H' { s with heap := h', gens := g', drawn := d', toks := t' } := by
  obtain ⟨m, ⟨o, es, ep, ho, r⟩, _⟩ := id I.loc
  obtain ⟨sl, hL⟩ := u.any ho I.free fun z => (hch _ z).2.1 rfl
  exact I.step (ch := ch) hch (fun b o hL hb hc e n => u.keep b o e n (fun z => (List.mem_cons.mp (I.stkSub b z)).elim hL hb) hc) (fun b o _ _ hc e n => u.any e n hc) (fun b o hc e n => u.free b o e n hc) (fun b o hc e => u.there b o e hc) u.tups u.frzs u.tbls (fun m' hm => by
    obtain ⟨o', es', ep', ho', r'⟩ := hm
    rw [ho] at ho'; cases ho'
    exact ⟨_, es', ep', hL, r'⟩) hok hg
/-- an untracked record of ours (an iterator) has turned -/
theorem Inv.turned {t' : Nat} {it : Addr} (I : Inv X pins σ H s) (k : ∀ b o, b ≠ it → s.heap.get? b = some o → h'.get? b = some o) (hn : H it = none) (hL : it ≠ X.env.locals)
    (h1 : it ∈ X.ex ∨ X.s₀.heap.objs.size ≤ it) (h2 : ∀ x c, X.env.cells.lookup x = some c → c ≠ it) (h3 : ∀ p ∈ X.pn ++ pins, p.1 ≠ it) : Inv X pins σ H { s with heap := h', toks := t' } := by
  have nit : ∀ b u, H b = some u → b ≠ it := fun b u e z => by rw [z, hn] at e; cases e
  refine I.step (g' := s.gens) (d' := s.drawn) (ch := [it]) (fun b hb => ?_) (fun b o _ _ hc e _ => k b o (fun z => hc (by simp [z])) e) (fun b o _ _ hc e _ => ⟨o.slots, k b o (fun z => hc (by simp [z])) e⟩) (fun _ _ _ _ n => n)
    (fun b o hc e => ⟨o, k b o (fun z => hc (by simp [z])) e⟩) (fun _ _ e => e) (fun _ _ _ e => e) (fun b ps e => ⟨#[], by rw [e]; simp⟩) (fun m hm => ?_) (fun b u e => ?_) I.bare
  · have e : b = it := by simpa using hb
    subst e
    exact ⟨h1, hL, h2, h3⟩
  · obtain ⟨o, es, ep, ho, r⟩ := hm
    exact ⟨o, es, ep, k _ o (Ne.symm hL) ho, r⟩
  · refine (I.hok b u e).stay (fun c v hc q => k c v ?_ q) (fun _ q => q) fun _ _ q => q
    rcases hc with z | z
    · rw [z]; exact nit b u e
    · exact nit c _ z
theorem Inv.tok (I : Inv X pins σ H s) (t : Nat) : Inv X pins σ H { s with toks := t } := I.un (h' := s.heap) (t' := t) Un.refl I.hok
/-- all objects kept -/
theorem Inv.kept {t' : Nat} (I : Inv X pins σ H s) (k : ∀ b u, s.heap.get? b = some u → h'.get? b = some u) : Inv X pins σ H { s with heap := h', toks := t' } := I.un (Un.kept k) (I.hok.kept k)
/-- a new object laid and tracked -/
theorem Inv.laid {a : Addr} {o : HO} {t' : Nat} (I : Inv X pins σ H s) (k : ∀ b u, s.heap.get? b = some u → h'.get? b = some u) (hp : s.heap.objs.size ≤ a) (new : ObjOk X.prog X.w (upd H a o) h' a o) :
    Inv X pins σ (upd H a o) { s with heap := h', toks := t' } := I.un (Un.laid k hp (I.hok.fresh hp)) (I.hok.laid k hp new)
/-- an object written -/
theorem Inv.write {x e : Addr} {o : HO} {t' : Nat} (I : Inv X pins σ H s) (mu : Mut (H x)) (he : e = x ∨ H e = some (.own x)) (k : ∀ b u, b ≠ e → s.heap.get? b = some u → h'.get? b = some u) (heo : ∃ u, h'.get? e = some u)
    (new : ObjOk X.prog X.w (upd H x o) h' x o) : Inv X pins σ (upd H x o) { s with heap := h', toks := t' } := I.un (Un.write mu he k heo) (I.hok.write mu he k heo new)
theorem Inv.pins_of {pins' : List (Addr × Obj)} (I : Inv X pins σ H s) (h : ∀ p ∈ pins', s.heap.get? p.1 = some p.2 ∧ H p.1 = none ∧ p.1 ≠ X.env.locals ∧ p.1 ∉ X.fs ∧ ∀ v, p.2.data ≠ .cell v) : Inv X pins' σ H s :=
  ⟨I.ok, I.os, I.bare, I.base, I.loc, I.cell, I.free, I.freeC, fun p hp => (List.mem_append.mp hp).elim (fun z => I.pin p (List.mem_append_left _ z)) (h p), I.hok, I.len⟩

theorem nodup_ix {N : List Str} (hN : N.Nodup) {i j : Nat} {x : Str} (a : N[i]? = some x) (b : N[j]? = some x) : i = j := by
  obtain ⟨h1, e1⟩ := List.getElem?_eq_some_iff.mp a
  obtain ⟨h2, e2⟩ := List.getElem?_eq_some_iff.mp b
  exact (List.getElem_inj hN).mp (e1.trans e2.symm)

/-- a name is stored; what changed -/
theorem store_ok2 {M : Model} {A : Around} {E : Value → Shared → Prop} {i : Nat} {x : Str} {v : V} {u : Value} {Q : Unit → Shared → Prop} (I : Inv X pins σ H s) (hN : X.N.Nodup) (hi : X.N[i]? = some x) (hx : Loc X.env.scope x) (r : RelV v u)
    (h : ∀ s', Inv X pins (σ.set i (some v)) H s' → (∃ a, Heap.SameBut a s.heap s'.heap ∧ (a = X.env.locals ∨ X.env.cells.lookup x = some a)) → Q () s') (hf : X.fn x = true ∨ X.env.scope.names.lookup x = some .local := by first | exact .inl rfl | exact .inr rfl | assumption) : wpAny M A (storeName X.env x u) Q E s := by
  obtain ⟨m, hn, hl⟩ := id I.loc
  have hcls : (X.env.scope.kind == .class || (X.env.scope.kind == .module && X.env.locals != X.env.globals)) = false := by rw [I.ok.kind]; rfl
  have hiσ : i < σ.length := by rw [I.len]; exact (List.getElem?_eq_some_iff.mp hi).1
  have cne := I.cne
  have tracked : ∀ {a : Addr} {h' : Heap}, (∃ o, s.heap.get? a = some o ∧ H a = none) → Heap.SameBut a s.heap h' → HOk X.prog X.w H h' := fun {a h'} ha hs b ob e => by
    obtain ⟨_, _, hfree⟩ := ha
    refine (I.hok b ob e).stay (fun c w' hc q => (hs.2 c ?_).trans q) (fun _ q => q) fun _ _ q => q
    rintro rfl
    rcases hc with rfl | hc
    · rw [hfree] at e; cases e
    · rw [hfree] at hc; cases hc
  rcases hx with hk | hk
  · refine wpAny_storeName_local hk hn (fun h' hn' hs => ?_) hcls
    obtain ⟨oL, _, _, hoL, _⟩ := id hn
    refine h _ ⟨I.ok, I.os, I.bare, ⟨fun b o e n hb hx => ?_, fun b o e n hb hx => ?_, I.base.free, fun b o e hx => ?_, I.base.tups, I.base.frzs, I.base.tbls⟩, ⟨_, hn', fun j y v' e1 e2 e3 => ?_⟩, fun y c e => ?_, I.free, I.freeC, fun p hp => ?_, tracked ⟨oL, hoL, I.free⟩ hs, by simpa using I.len⟩ ⟨_, hs, .inl rfl⟩
    · exact (hs.2 b (Nat.ne_of_lt (Nat.lt_of_lt_of_le (Heap.lt_size e) I.ok.above))).trans (I.base.keep b o e n hb hx)
    · obtain ⟨sl, e1⟩ := I.base.slot b o e n hb hx
      exact ⟨sl, (hs.2 b (Nat.ne_of_lt (Nat.lt_of_lt_of_le (Heap.lt_size e) I.ok.above))).trans e1⟩
    · obtain ⟨o', e1⟩ := I.base.there b o e hx
      exact ⟨o', (hs.2 b (Nat.ne_of_lt (Nat.lt_of_lt_of_le (Heap.lt_size e) I.ok.above))).trans e1⟩
    · by_cases hj : j = i
      · subst hj
        rw [hi] at e1; cases e1
        rw [List.getElem?_set_self hiσ] at e2
        cases e2
        exact ⟨u, r, .inl ⟨hk, by simp⟩⟩
      · rw [List.getElem?_set_ne (Ne.symm hj)] at e2
        obtain ⟨u', r', q⟩ := hl j y v' e1 e2 e3
        refine ⟨u', r', ?_⟩
        rcases q with ⟨k, e⟩ | ⟨k, c, e, z⟩
        · refine .inl ⟨k, ?_⟩
          have : y ≠ x := fun e => hj (nodup_ix hN e1 (e ▸ hi))
          simp [this, e]
        · exact .inr ⟨k, c, e, z.sameBut hs (cne y c e)⟩
    · obtain ⟨w', z⟩ := I.cell y c e
      exact ⟨w', z.sameBut hs (cne y c e)⟩
    · obtain ⟨e, n, ne, nf, d⟩ := I.pin p hp
      exact ⟨(hs.2 p.1 ne).trans e, n, ne, nf, d⟩
  · have hfn : X.fn x = true := by
      rcases hf with z | z
      · exact z
      · rw [z] at hk; cases hk
    obtain ⟨c, hc⟩ := I.ok.has x (.inl hk)
    obtain ⟨w', z⟩ := I.cell x c hc
    refine wpAny_storeName_cell I.ok.kind hk hc z (fun h' hc' hs => ?_)
    obtain ⟨oc, hoc, hocd⟩ := id z
    refine h { s with heap := h' } ⟨I.ok, I.os, I.bare, ⟨fun b o e n hb hx => ?_, fun b o e n hb hx => ?_, I.base.free, fun b o e hx => ?_, I.base.tups, I.base.frzs, I.base.tbls⟩, ⟨m, hn.sameBut hs (Ne.symm (cne x c hc)), fun j y v' e1 e2 e3 => ?_⟩, fun y c' e => ?_, I.free, I.freeC, fun p hp => ?_, tracked ⟨oc, hoc, I.freeC x c hc⟩ hs, by simpa using I.len⟩ ⟨c, hs, .inr hc⟩
    · exact (hs.2 b (Nat.ne_of_lt (Nat.lt_of_lt_of_le (Heap.lt_size e) (I.ok.cab x c hfn hc)))).trans (I.base.keep b o e n hb hx)
    · obtain ⟨sl, e1⟩ := I.base.slot b o e n hb hx
      exact ⟨sl, (hs.2 b (Nat.ne_of_lt (Nat.lt_of_lt_of_le (Heap.lt_size e) (I.ok.cab x c hfn hc)))).trans e1⟩
    · obtain ⟨o', e1⟩ := I.base.there b o e hx
      exact ⟨o', (hs.2 b (Nat.ne_of_lt (Nat.lt_of_lt_of_le (Heap.lt_size e) (I.ok.cab x c hfn hc)))).trans e1⟩
    · by_cases hj : j = i
      · subst hj
        rw [hi] at e1; cases e1
        rw [List.getElem?_set_self hiσ] at e2
        cases e2
        exact ⟨u, r, .inr ⟨.inl hk, c, hc, hc'⟩⟩
      · rw [List.getElem?_set_ne (Ne.symm hj)] at e2
        obtain ⟨u', r', q⟩ := hl j y v' e1 e2 e3
        refine ⟨u', r', ?_⟩
        rcases q with q | ⟨k, c', e, z'⟩
        · exact .inl q
        · refine .inr ⟨k, c', e, z'.sameBut hs ?_⟩
          rintro rfl
          exact hj (nodup_ix hN e1 (I.ok.inj _ _ _ e hc ▸ hi))
    · by_cases hcc : c' = c
      · subst hcc; exact ⟨_, hc'⟩
      · obtain ⟨w2, z2⟩ := I.cell y c' e
        exact ⟨w2, z2.sameBut hs hcc⟩
    · obtain ⟨e, n, ne, nf, d⟩ := I.pin p hp
      refine ⟨(hs.2 p.1 ?_).trans e, n, ne, nf, d⟩
      intro q
      rw [q, hoc] at e
      have q' : oc = p.2 := Option.some.inj e
      exact d w' (by rw [← q']; exact hocd)
theorem store_ok {M : Model} {A : Around} {E : Value → Shared → Prop} {i : Nat} {x : Str} {v : V} {u : Value} {Q : Unit → Shared → Prop} (I : Inv X pins σ H s) (hN : X.N.Nodup) (hi : X.N[i]? = some x) (hx : Loc X.env.scope x) (r : RelV v u)
    (h : ∀ s', Inv X pins (σ.set i (some v)) H s' → Q () s') (hf : X.fn x = true ∨ X.env.scope.names.lookup x = some .local := by first | exact .inl rfl | exact .inr rfl | assumption) : wpAny M A (storeName X.env x u) Q E s :=
  store_ok2 I hN hi hx r (fun s' I' _ => h s' I') hf
/-- behind a call or a block, the state as it is -/
theorem Inv.call' {s' : Shared} {ch : List Addr} (I : Inv X pins σ H s) (ho : s'.os = s.os) (u : Un (frs X.stack) ch H H' s.heap s'.heap) (hok : HOk X.prog X.w H' s'.heap) (hg : AllBare s'.gens)
    (hch : ∀ b ∈ ch, (b ∈ X.ex ∨ X.s₀.heap.objs.size ≤ b) ∧ b ≠ X.env.locals ∧ (∀ x c, X.env.cells.lookup x = some c → c ≠ b) ∧ ∀ p ∈ X.pn ++ pins, p.1 ≠ b) : Inv X pins σ H' s' := by
  obtain ⟨h', g', d', t', o'⟩ := s'
  have e : o' = s.os := ho
  subst e
  exact I.call (g' := g') (t' := t') (d' := d') u hok hg hch
end

/-! ### the judgements -/
/-- an exception: its class, its own dict's address (where it has one), the abstract heap behind it -/
abbrev XK := Value → Option Addr → Hp → Prop
abbrev St := List (Option V)
abbrev VK := V → Hp → Prop
/-- an expression's reading; a test's; an argument list's -/
abbrev TE := St → Hp → VK → Prop
abbrev TT := St → Hp → (Bool → Hp → Prop) → Prop
abbrev TA := St → Hp → (List V → Hp → Prop) → Prop
/-- what is wanted behind a statement -/
structure Ends where
  nx : St → Hp → Prop
  rt : VK
  bk : St → Hp → Prop := fun _ _ => False
  ct : St → Hp → Prop := fun _ _ => False
abbrev TS := Ends → St → Hp → Prop

def EP (X : Cx) (pins : List (Addr × Obj)) (σ : St) (Q : VK) (u : Value) (s' : Shared) : Prop := ∃ v H', Inv X pins σ H' s' ∧ RelV v u ∧ Q v H'
def TP (X : Cx) (pins : List (Addr × Obj)) (σ : St) (Q : Bool → Hp → Prop) (b : Bool) (s' : Shared) : Prop := ∃ H', Inv X pins σ H' s' ∧ Q b H'
def AP (X : Cx) (pins : List (Addr × Obj)) (σ : St) (Q : List V → Hp → Prop) (us : List Value) (s' : Shared) : Prop := ∃ vs H', Inv X pins σ H' s' ∧ Vals vs us ∧ Q vs H'
def SP (X : Cx) (pins : List (Addr × Obj)) (D : Ends) (f : Flow) (s' : Shared) : Prop :=
  match f with
  | .next => ∃ σ' H', Inv X pins σ' H' s' ∧ D.nx σ' H'
  | .brk => ∃ σ' H', Inv X pins σ' H' s' ∧ D.bk σ' H'
  | .cont => ∃ σ' H', Inv X pins σ' H' s' ∧ D.ct σ' H'
  | .ret u => ∃ v σ' H', Inv X pins σ' H' s' ∧ RelV v u ∧ D.rt v H'

def PE (X : Cx) (e : Expr) (t : TE) : Prop :=
  ∀ (pins : List (Addr × Obj)) (s : Shared) (σ : St) (H : Hp) (Q : VK), Inv X pins σ H s → t σ H Q → wpAny (model X.prog X.w) X.A (eval e X.env) (EP X pins σ Q) X.xe s
def PT (X : Cx) (e : Expr) (t : TT) : Prop :=
  ∀ (pins : List (Addr × Obj)) (s : Shared) (σ : St) (H : Hp) (Q : Bool → Hp → Prop), Inv X pins σ H s → t σ H Q → wpAny (model X.prog X.w) X.A (isTrue e X.env (eval e X.env)) (TP X pins σ Q) X.xe s
/-- a test whatever its 'whole' is (and, or) -/
def PW (X : Cx) (e : Expr) (t : TT) : Prop :=
  ∀ (whole : Sem Value) (pins : List (Addr × Obj)) (s : Shared) (σ : St) (H : Hp) (Q : Bool → Hp → Prop), Inv X pins σ H s → t σ H Q → wpAny (model X.prog X.w) X.A (isTrue e X.env whole) (TP X pins σ Q) X.xe s
theorem PW.pt {X : Cx} {e : Expr} {t : TT} (h : PW X e t) : PT X e t := h _
/-- an argument list (no star), from the left -/
def PA (X : Cx) (es : List Expr) (t : TA) : Prop :=
  ∀ (pos : Pos) (pins : List (Addr × Obj)) (s : Shared) (σ : St) (H : Hp) (Q : List V → Hp → Prop), Inv X pins σ H s → t σ H Q → wpAny (model X.prog X.w) X.A (spliced (backTo pos (starEach es X.env))) (AP X pins σ Q) X.xe s
def PS (X : Cx) (st : Stmt) (t : TS) : Prop :=
  ∀ (pins : List (Addr × Obj)) (s : Shared) (σ : St) (H : Hp) (D : Ends), Inv X pins σ H s → t D σ H → wpAny (model X.prog X.w) X.A (exec st X.env) (SP X pins D) X.xe s
def PSs (X : Cx) (st : List Stmt) (t : TS) : Prop :=
  ∀ (pins : List (Addr × Obj)) (s : Shared) (σ : St) (H : Hp) (D : Ends), Inv X pins σ H s → t D σ H → wpAny (model X.prog X.w) X.A (execs st X.env) (SP X pins D) X.xe s
/-- weaken the end -/
theorem thn {α : Type} {t : Sem α} {Q Q' : α → Shared → Prop} {M : Model} {A : Around} {E : Value → Shared → Prop} {s : Shared} (h : wpAny M A t Q E s) (hQ : ∀ a s, Q a s → Q' a s) : wpAny M A t Q' E s := wpAny_mono h hQ fun _ _ x => x
end L2

namespace L2
open PySem PySem.Spec PyProof.Rows
section
variable {X : Cx}

/-! ### names and constants -/
def tVar (i : Nat) : TE := fun σ H Q => ∃ v, σ[i]? = some (some v) ∧ Q v H
def tC (v : V) : TE := fun _ H Q => Q v H
theorem pe_var {i : Nat} {x : Str} {pos : Pos} (hN : X.N[i]? = some x) (hv : Vis X.env.scope x) (hd : (x == ("__debug__" : Str)) = false := by decide) (hcd : (x == ("__classdict__" : Str)) = false := by decide) : PE X (.Name x pos) (tVar i) := by
  intro pins s σ H Q I h
  obtain ⟨v, e, h⟩ := h
  obtain ⟨m, hn, hl⟩ := I.loc
  obtain ⟨u, r, l⟩ := hl i x v hN e hv
  have fin : EP X pins σ Q u s := ⟨v, H, I, r, h⟩
  rcases l with ⟨hk, hm⟩ | ⟨hk, c, hc, hcell⟩
  · exact wpAny_Name (wpAny_loadName_local I.ok.kind hk hn hm fin) hd
  · rcases hk with hk | hk
    · exact wpAny_Name (wpAny_loadName_cell I.ok.kind hk hc hcell fin) hd
    · exact wpAny_Name (wpAny_loadName_free I.ok.kind hk hc hcell fin hcd) hd
theorem pe_int {i j pos} : PE X (.Constant (.int i) j pos) (tC (.int i)) := fun _ _ _ H _ I h => wpAny_Constant_int ⟨.int i, H, I.tok _, ⟨_, rfl⟩, h⟩
theorem pe_bl {b j pos} : PE X (.Constant (.bool b) j pos) (tC (.bl b)) := fun _ _ _ H _ I h => Constant_bool ⟨.bl b, H, I, rfl, h⟩
/-- a global name of the def -/
def Gl (X : Cx) (x : Str) : Prop := X.env.kindOf x = some .globalImplicit
theorem ld_glob {E : Value → Shared → Prop} {pins : List (Addr × Obj)} {s : Shared} {σ : St} {H : Hp} {x : Str} {u : Value} {pos : Pos} {Q : Value → Shared → Prop} (I : Inv X pins σ H s) (hg : Gl X x) (hm : X.mg x = some u) (h : Q u s)
    (hd : (x == ("__debug__" : Str)) = false := by decide) : wpAny (model X.prog X.w) X.A (eval (.Name x pos) X.env) Q E s :=
  Calls.Name_function_global I.ok.kind hg (Calls.loadGlobal_global (by rw [I.ok.glob]; exact I.mod.glob.keeps I.bk) hm h) hd
theorem ld_blt {E : Value → Shared → Prop} {pins : List (Addr × Obj)} {s : Shared} {σ : St} {H : Hp} {x : Str} {u : Value} {pos : Pos} {Q : Value → Shared → Prop} (I : Inv X pins σ H s) (hg : Gl X x) (hm : X.mg x = none) (hv : bootBuiltins x = some u) (h : Q u s)
    (hn : x ≠ "__name__" := by decide) (hd : (x == ("__debug__" : Str)) = false := by decide) : wpAny (model X.prog X.w) X.A (eval (.Name x pos) X.env) Q E s := by
  obtain ⟨mb, h1, h2⟩ := I.mod.blt
  exact Calls.Name_function_global I.ok.kind hg (Calls.loadGlobal_builtin (by rw [I.ok.glob]; exact I.mod.glob.keeps I.bk) hm (by rw [I.ok.blt]; exact h1.keeps I.bk) ((h2 x hn).trans hv) h) hd
/-! ### arithmetic -/
variable {a b : Expr} {ta tb : TE} {pos : Pos}
/-- a comparison as a value, as a test -/
def tB (t : TE) : TT := fun σ H Q => t σ H fun x H1 => ∃ c, x = .bl c ∧ Q c H1
/-- an expression whose value is a bool, as a test -/
theorem pt_val {e : Expr} {t : TE} (h : PE X e t) (he : ∀ whole, isTrue e X.env whole = (do let v ← whole; standAt e.pos; holding [v] (truthy v)) := by intro _; rfl) : PT X e (tB t) := by
  intro pins s σ H Q I hw
  refine isTrue_plain (thn (h pins s σ H _ I hw) fun v s1 ⟨x, H1, I1, r1, q1⟩ => ?_) (he _)
  obtain ⟨d, rfl, q⟩ := q1
  cases r1
  exact wpAny_truthy_bool ⟨H1, I1, q⟩

/-! ### and, or, not -/
variable {tA tB' : TT} {rest : List Expr}
def tAnd (t u : TT) : TT := fun σ H Q => t σ H fun c H1 => if c = true then u σ H1 Q else Q false H1
def tOr (t u : TT) : TT := fun σ H Q => t σ H fun c H1 => if c = true then Q true H1 else u σ H1 Q
def tNot (t : TT) : TT := fun σ H Q => t σ H fun c H1 => Q (!c) H1
theorem pw_and1 (ha : PT X a tA) : PW X (.BoolOp .And [a] pos) tA := by
  intro wh pins s σ H Q I h
  refine isTrue_and (thn (ha pins s σ H Q I h) fun c s1 e => ?_)
  cases c with
  | true => exact isTrue_and_nil e
  | false => exact e
theorem pw_or1 (ha : PT X a tA) : PW X (.BoolOp .Or [a] pos) tA := by
  intro wh pins s σ H Q I h
  refine isTrue_or (thn (ha pins s σ H Q I h) fun c s1 e => ?_)
  cases c with
  | false => exact isTrue_or_nil e
  | true => exact e
theorem pw_and (ha : PT X a tA) (hb : PW X (.BoolOp .And (b :: rest) pos) tB') : PW X (.BoolOp .And (a :: b :: rest) pos) (tAnd tA tB') := by
  intro wh pins s σ H Q I h
  refine isTrue_and (thn (ha pins s σ H _ I h) fun c s1 ⟨H1, I1, q1⟩ => ?_)
  cases c with
  | true => exact hb wh pins s1 σ H1 Q I1 q1
  | false => exact ⟨H1, I1, q1⟩
theorem pw_or (ha : PT X a tA) (hb : PW X (.BoolOp .Or (b :: rest) pos) tB') : PW X (.BoolOp .Or (a :: b :: rest) pos) (tOr tA tB') := by
  intro wh pins s σ H Q I h
  refine isTrue_or (thn (ha pins s σ H _ I h) fun c s1 ⟨H1, I1, q1⟩ => ?_)
  cases c with
  | true => exact ⟨H1, I1, q1⟩
  | false => exact hb wh pins s1 σ H1 Q I1 q1
theorem pt_not (ha : PT X a tA) : PT X (.UnaryOp .Not a pos) (tNot tA) := by
  intro pins s σ H Q I h
  exact isTrue_not (ha pins s σ H (fun c H1 => Q (!c) H1) I h)
/-- .. as values (bools) -/
def tAndV (ta tb : TE) : TE := fun σ H Q => ta σ H fun x H1 => ∃ c, x = .bl c ∧ if c = true then tb σ H1 Q else Q (.bl false) H1
theorem pe_one {op} {t : TE} (h : PE X a t) : PE X (.BoolOp op [a] pos) t := fun pins s σ H Q I hw => BoolOp_one (h pins s σ H Q I hw)
theorem pe_and (ha : PE X a ta) (hb : PE X (.BoolOp .And (b :: rest) pos) tb) : PE X (.BoolOp .And (a :: b :: rest) pos) (tAndV ta tb) := by
  intro pins s σ H Q I h
  refine BoolOp_and (thn (ha pins s σ H _ I h) fun v s1 ⟨x, H1, I1, r1, q1⟩ => ?_)
  obtain ⟨c, rfl, q1⟩ := q1
  cases r1
  refine wpAny_truthy_bool ?_
  cases c with
  | true => exact hb pins s1 σ H1 Q I1 q1
  | false => exact ⟨.bl false, H1, I1, rfl, q1⟩
end
end L2

namespace L2
open PySem PySem.Spec PyProof.Rows

/-! ### a list, a tuple that is read: tracked, frozen, or an object of the module -/
def SqL (K : PySem.W.Frag) (H : Hp) (a : Addr) (xs : List V) : Prop :=
  Rd H a (.lst xs) ∨
    ∃ (o : Obj) (its : Array Value) (n : Nat), K.lookup a = some o ∧ o.cls = .type "list" ∧ o.dict = none ∧ o.data = .seq its n ∧ its.size ≤ sizeLine ∧ Vals xs its.toList
def SqT (K : PySem.W.Frag) (H : Hp) (a : Addr) (xs : List V) : Prop :=
  Rd H a (.tup xs) ∨
    ∃ (o : Obj) (its : Array Value) (n : Nat), K.lookup a = some o ∧ o.cls = .type "tuple" ∧ o.data = .seq its n ∧ its.size ≤ sizeLine ∧ Vals xs its.toList
def absV : Value → Option V
  | .none => some .non
  | .bool b => some (.bl b)
  | .int i _ => some (.int i)
  | .str x _ => some (.str x)
  | .bytes b _ => some (.byt b)
  | .float b _ => some (.flt b)
  | .ref a => some (.ref a)
  | .type n => some (.ty n)
  | _ => none
theorem RelV.abs {x : V} {u : Value} (r : RelV x u) : absV u = some x := by
  cases x with
  | non => cases r; rfl
  | bl _ => cases r; rfl
  | int _ => obtain ⟨t, rfl⟩ := r; rfl
  | str _ => obtain ⟨t, rfl⟩ := r; rfl
  | byt _ => obtain ⟨t, rfl⟩ := r; rfl
  | flt _ => obtain ⟨t, rfl⟩ := r; rfl
  | ref _ => cases r; rfl
  | ty _ => cases r; rfl
theorem RelV.inj {x y : V} {u : Value} (r : RelV x u) (q : RelV y u) : x = y := Option.some.inj (r.abs.symm.trans q.abs)
theorem Vals.inj : ∀ {xs ys : List V} {us : List Value}, Vals xs us → Vals ys us → xs = ys
  | _, _, _, .nil, .nil => rfl
  | _, _, _, .cons r t, .cons r' t' => by rw [r.inj r', Vals.inj t t']
section
variable {X : Cx} {pins : List (Addr × Obj)} {σ : St} {H : Hp} {s : Shared} {a : Addr} {xs ys : List V}
theorem SqL.of {K : PySem.W.Frag} (h : H a = some (.lst xs)) : SqL K H a xs := .inl (.inl h)
theorem SqT.of {K : PySem.W.Frag} (h : H a = some (.tup xs)) : SqT K H a xs := .inl (.inl h)
theorem Inv.list (I : Inv X pins σ H s) (h : SqL X.K H a xs) : ∃ its : List Value, Vals xs its ∧ PlainL s.heap a its.toArray ∧ xs.length ≤ sizeLine := by
  rcases h with h | ⟨o, its, n, hk, hc, hd, hs, hz, r⟩
  · obtain ⟨z, its, n, r, e⟩ := h.ok I.hok
    exact ⟨its, r, ⟨_, n, e, rfl, rfl, rfl⟩, z⟩
  · refine ⟨its.toList, r, ⟨o, n, I.kIn a o hk, hc, hd, by simpa using hs⟩, ?_⟩
    have e := r.length
    simp only [Array.length_toList] at e
    omega
theorem Inv.tuple (I : Inv X pins σ H s) (h : SqT X.K H a xs) : ∃ its : List Value, Vals xs its ∧ IsTup s.heap a its.toArray ∧ xs.length ≤ sizeLine := by
  rcases h with h | ⟨o, its, n, hk, hc, hs, hz, r⟩
  · obtain ⟨z, its, r, p⟩ := h.ok I.hok
    exact ⟨its, r, p, z⟩
  · refine ⟨its.toList, r, ⟨o, I.kIn a o hk, hc, n, by simpa using hs⟩, ?_⟩
    have e := r.length
    simp only [Array.length_toList] at e
    omega
theorem Inv.list_inj (I : Inv X pins σ H s) (h : SqL X.K H a xs) (h' : SqL X.K H a ys) : xs = ys := by
  obtain ⟨its, r, ⟨o, n, e, _, _, d⟩, _⟩ := I.list h
  obtain ⟨its', r', ⟨o', n', e', _, _, d'⟩, _⟩ := I.list h'
  rw [e] at e'; cases e'
  rw [d] at d'
  injection d' with d1 _
  have : its = its' := by simpa using congrArg Array.toList d1
  subst this
  exact r.inj r'
end

/-! ### another wish about exceptions -/
abbrev Cx.wish (X : Cx) (E : Value → Shared → Prop) : Cx := { X with xe := E }
/-- no exception leaves -/
abbrev Cx.nox (X : Cx) : Cx := X.wish fun _ _ => False
theorem Cx.Ok.wish {X : Cx} (ok : X.Ok) (E : Value → Shared → Prop) : (X.wish E).Ok :=
  ⟨ok.mod, ok.kind, ok.glob, ok.blt, ok.above, ok.inj, ok.has, ok.cab, ok.hd, ok.frames, ok.stk, ok.exf, ok.bs, ok.bsz, ok.noex, ok.exfs, ok.funs, ok.frf⟩
theorem Cx.Ok.unwish {X : Cx} {E : Value → Shared → Prop} (ok : (X.wish E).Ok) : X.Ok :=
  ⟨ok.mod, ok.kind, ok.glob, ok.blt, ok.above, ok.inj, ok.has, ok.cab, ok.hd, ok.frames, ok.stk, ok.exf, ok.bs, ok.bsz, ok.noex, ok.exfs, ok.funs, ok.frf⟩
section
variable {X : Cx} {pins : List (Addr × Obj)} {σ : St} {H : Hp} {s : Shared} {E : Value → Shared → Prop}
theorem Inv.wish (I : Inv X pins σ H s) (E : Value → Shared → Prop) : Inv (X.wish E) pins σ H s := ⟨I.ok.wish E, I.os, I.bare, I.base, I.loc, I.cell, I.free, I.freeC, I.pin, I.hok, I.len⟩
theorem Inv.unwish (I : Inv (X.wish E) pins σ H s) : Inv X pins σ H s := ⟨I.ok.unwish, I.os, I.bare, I.base, I.loc, I.cell, I.free, I.freeC, I.pin, I.hok, I.len⟩
theorem SP.unwish {D : Ends} {f : Flow} {s' : Shared} (h : SP (X.wish E) pins D f s') : SP X pins D f s' := by
  cases f with
  | next => obtain ⟨σ', H', I, q⟩ := h; exact ⟨σ', H', I.unwish, q⟩
  | brk => obtain ⟨σ', H', I, q⟩ := h; exact ⟨σ', H', I.unwish, q⟩
  | cont => obtain ⟨σ', H', I, q⟩ := h; exact ⟨σ', H', I.unwish, q⟩
  | ret u => obtain ⟨v, σ', H', I, r, q⟩ := h; exact ⟨v, σ', H', I.unwish, r, q⟩
theorem PSs.nox {st : List Stmt} {t : TS} (h : PSs X.nox st t) : PSs X st t := fun pins s σ H D I hw =>
  wpAny_mono (h pins s σ H D (I.wish _) hw) (fun _ _ q => q.unwish) fun _ _ z => False.elim z
end

/-! ### blocks and small statements -/
section
variable {X : Cx} {st : Stmt} {rest : List Stmt} {t u : TS} {e : Expr} {te : TE} {pos : Pos}
def tNext : TS := fun D σ H => D.nx σ H
def tSeq (t u : TS) : TS := fun D σ H => t { D with nx := u D } σ H
theorem pss_nil : PSs X [] tNext := fun _ _ σ H _ I h => wpAny_execs_nil ⟨σ, H, I, h⟩
theorem pss_cons (h1 : PS X st t) (h2 : PSs X rest u) : PSs X (st :: rest) (tSeq t u) := by
  intro pins s σ H D I h
  refine wpAny_execs_cons (thn (h1 pins s σ H { D with nx := u D } I h) fun f s1 q => ?_)
  cases f with
  | next =>
    obtain ⟨σ', H', I', q⟩ := q
    exact h2 pins s1 σ' H' D I' q
  | ret v => exact q
  | brk => exact q
  | cont => exact q
theorem pss_one (h1 : PS X st t) : PSs X [st] t := by
  intro pins s σ H D I h
  refine wpAny_execs_cons (thn (h1 pins s σ H D I h) fun f s1 q => ?_)
  cases f with
  | next => exact wpAny_execs_nil q
  | ret v => exact q
  | brk => exact q
  | cont => exact q
/-- in a def's body nothing is shown -/
theorem Inv.quiet {pins : List (Addr × Obj)} {σ : St} {H : Hp} {s : Shared} (I : Inv X pins σ H s) : interactive X.env = false := by simp [interactive, I.ok.kind]
/-- an expression whose value is dropped -/
def tDrop (te : TE) : TS := fun D σ H => te σ H fun _ H1 => D.nx σ H1
theorem ps_expr (he : PE X e te) (hs : swapsWith e none pos.line X.env = pure false := by rfl) : PS X (.Expr e pos) (tDrop te) := by
  intro pins s σ H D I h
  exact wpAny_Expr_any (thn (he pins s σ H _ I h) fun v s1 ⟨x, H1, I1, r1, q1⟩ => ⟨σ, H1, I1, q1⟩) I.quiet hs
def tRet (te : TE) : TS := fun D σ H => te σ H D.rt
theorem ps_ret (he : PE X e te) : PS X (.Return (some e) pos) (tRet te) := by
  intro pins s σ H D I h
  exact wpAny_Return_some (thn (he pins s σ H _ I h) fun v s1 ⟨x, H1, I1, r1, q1⟩ => ⟨x, σ, H1, I1, r1, q1⟩)
def tIfS (c : TT) (t u : TS) : TS := fun D σ H => c σ H fun b H1 => if b = true then t D σ H1 else u D σ H1
theorem ps_if {c : Expr} {a b : List Stmt} {tc : TT} (hc : PT X c tc) (ha : PSs X a t) (hb : PSs X b u) : PS X (.If c a b pos) (tIfS tc t u) := by
  intro pins s σ H D I h
  refine wpAny_If (thn (hc pins s σ H _ I h) fun d s1 ⟨H1, I1, q1⟩ => ?_)
  cases d with
  | true => exact ha pins s1 σ H1 D I1 q1
  | false => exact hb pins s1 σ H1 D I1 q1
/-- code that the proof never comes to -/
def tNever : TS := fun _ _ _ => False
theorem ps_never : PS X st tNever := fun _ _ _ _ _ _ h => h.elim
end

/-! ### targets -/
abbrev TG := V → St → Hp → (St → Hp → Prop) → Prop
abbrev TGs := List V → St → Hp → (St → Hp → Prop) → Prop
def PG (X : Cx) (target : Expr) (t : TG) : Prop :=
  ∀ (pins : List (Addr × Obj)) (s : Shared) (σ : St) (H : Hp) (v : V) (u : Value) (Q : St → Hp → Prop), Inv X pins σ H s → RelV v u → t v σ H Q →
    wpAny (model X.prog X.w) X.A (assign target X.env u) (fun _ s' => ∃ σ' H', Inv X pins σ' H' s' ∧ Q σ' H') X.xe s
/-- several targets, one after another -/
def PGs (X : Cx) (ts : List Expr) (t : TGs) : Prop :=
  ∀ (pins : List (Addr × Obj)) (s : Shared) (σ : St) (H : Hp) (vs : List V) (us : List Value) (Q : St → Hp → Prop), Inv X pins σ H s → Vals vs us → t vs σ H Q →
    wpAny (model X.prog X.w) X.A (assignInOrder ((assignEach ts X.env).map (·.2)) us) (fun _ s' => ∃ σ' H', Inv X pins σ' H' s' ∧ Q σ' H') X.xe s
/-- o[i] = v, by values -/
abbrev TSet := V → V → V → Hp → (Hp → Prop) → Prop
def PSet (X : Cx) (t : TSet) : Prop :=
  ∀ (pins : List (Addr × Obj)) (s : Shared) (σ : St) (H : Hp) (o i v : V) (ov iv u : Value) (Q : Hp → Prop), Inv X pins σ H s → RelV o ov → RelV i iv → RelV v u → t o i v H Q →
    wpAny (model X.prog X.w) X.A (setItem ov iv u) (fun _ s' => ∃ H', Inv X pins σ H' s' ∧ Q H') X.xe s
/-- a op= b, by values -/
abbrev TIp := V → V → Hp → VK → Prop
def PIp (X : Cx) (op : Operator) (t : TIp) : Prop :=
  ∀ (pins : List (Addr × Obj)) (s : Shared) (σ : St) (H : Hp) (x y : V) (v u : Value) (Q : VK), Inv X pins σ H s → RelV x v → RelV y u → t x y H Q →
    wpAny (model X.prog X.w) X.A (inplaceOp op v u) (EP X pins σ Q) X.xe s
section
variable {X : Cx} {pos : Pos}
def gName (i : Nat) : TG := fun v σ H Q => Q (σ.set i (some v)) H
theorem pg_name {i : Nat} {x : Str} (hN : X.N.Nodup) (hi : X.N[i]? = some x) (hx : Loc X.env.scope x) (hf : X.fn x = true ∨ X.env.scope.names.lookup x = some .local := by first | exact .inl rfl | exact .inr rfl | assumption) : PG X (.Name x pos) (gName i) := by
  intro pins s σ H v u Q I r h
  exact wpAny_assign_Name (store_ok I hN hi hx r (fun s' I' => ⟨_, H, I', h⟩) hf)
def gNil : TGs := fun vs σ H Q => vs = [] ∧ Q σ H
def gCons (t : TG) (u : TGs) : TGs := fun vs σ H Q => ∃ v r, vs = v :: r ∧ t v σ H fun σ' H' => u r σ' H' Q
theorem pgs_nil : PGs X [] gNil := by
  intro pins s σ H vs us Q I r h
  obtain ⟨e, h⟩ := h
  subst e
  cases r
  exact assignInOrder_nil ⟨σ, H, I, h⟩
theorem pgs_cons {e : Expr} {es : List Expr} {t : TG} {u : TGs} (h1 : PG X e t) (h2 : PGs X es u)
    (hs : (assignEach (e :: es) X.env).map (·.2) = assign e X.env :: (assignEach es X.env).map (·.2) := by rfl) : PGs X (e :: es) (gCons t u) := by
  intro pins s σ H vs us Q I r h
  obtain ⟨v, vr, e1, h⟩ := h
  subst e1
  cases r with
  | cons r rr =>
    rw [hs]
    refine assignInOrder_cons (thn (h1 pins s σ H _ _ _ I r h) fun _ s1 ⟨σ1, H1, I1, q1⟩ => ?_)
    exact h2 pins s1 σ1 H1 _ _ Q I1 rr q1
/-- (a, b, ..) = a tuple of that length -/
def gTup (K : PySem.W.Frag) (n : Nat) (t : TGs) : TG := fun v σ H Q => ∃ a xs, v = .ref a ∧ SqT K H a xs ∧ xs.length = n ∧ t xs σ H Q
theorem pg_tup {es : List Expr} {k : Nat} {t : TGs} {n : Nat} (hc : X.calm = true) (h : PGs X es t)
    (hn : (assignEach es X.env).length = n := by rfl) (hst : (assignEach es X.env).findIdx? (·.1) = none := by rfl) : PG X (.Tuple es k pos) (gTup X.K n t) := by
  intro pins s σ H v u Q I r hw
  obtain ⟨a, xs, e1, hq, hl, hw⟩ := hw
  subst e1
  cases r
  obtain ⟨its, rv, ht, hz⟩ := I.tuple hq
  refine assign_Tuple_tuple (I.ok.hd hc) ht (by simp [hn, ← hl, rv.length]) hst fun h' hx => ?_
  have I1 : Inv X pins σ H { s with heap := h' } := I.kept (t' := s.toks) fun b o e => hx b o (Nat.ne_of_lt (Heap.lt_size e)) e
  exact h pins _ σ H xs _ Q I1 (by simpa using rv) hw
/-- o[i] = .. -/
def gSub (to ti : TE) (t : TSet) : TG := fun v σ H Q => to σ H fun o H1 => ti σ H1 fun i H2 => t o i v H2 fun H3 => Q σ H3
theorem pg_sub {o i : Expr} {to ti : TE} {t : TSet} (ho : PE X o to) (hi : PE X i ti) (hs : PSet X t)
    (ha : ∀ v, assign (.Subscript o i pos) X.env v = (do
      let ov ← holding [v] (eval o X.env)
      let iv ← holding [v, ov] (eval i X.env)
      standAt pos
      holding [v, ov, iv] (setItem ov iv v)
      release [v, ov, iv] []) := by intro _; rfl) : PG X (.Subscript o i pos) (gSub to ti t) := by
  intro pins s σ H v u Q I r h
  rw [ha]
  refine wpAny_bind (wpAny_holding (thn (ho pins s σ H _ I h) fun ov s1 ⟨x, H1, I1, r1, q1⟩ => ?_))
  refine wpAny_bind (wpAny_holding (thn (hi pins s1 σ H1 _ I1 q1) fun iv s2 ⟨y, H2, I2, r2, q2⟩ => ?_))
  refine wpAny_bind (wpAny_standAt (wpAny_bind (wpAny_holding (thn (hs pins s2 σ H2 x y v ov iv u _ I2 r1 r2 r q2) fun _ s3 ⟨H3, I3, q3⟩ => ?_))))
  exact wpAny_release ⟨σ, H3, I3, q3⟩
/-- target = value -/
def tAsg (te : TE) (g : TG) : TS := fun D σ H => te σ H fun x H1 => g x σ H1 D.nx
theorem ps_asg {tg e : Expr} {te : TE} {g : TG} (he : PE X e te) (hg : PG X tg g) (hs : swapsWithSole [tg] e pos.line X.env = pure false := by rfl) (hw : swappedStores [tg] e X.env = pure none := by rfl)
    (h1 : (assignEach [tg] X.env).map (·.2) = [assign tg X.env] := by rfl) : PS X (.Assign [tg] e pos) (tAsg te g) := by
  intro pins s σ H D I h
  refine wpAny_Assign_stores (thn (he pins s σ H _ I h) fun v s1 ⟨x, H1, I1, r1, q1⟩ => ?_) hs hw
  rw [h1]
  exact thn (hg pins s1 σ H1 x v _ I1 r1 q1) fun _ s2 q => q
/-- name = value -/
theorem ps_set {i : Nat} {x : Str} {e : Expr} {te : TE} {pos' : Pos} (hN : X.N.Nodup) (hi : X.N[i]? = some x) (hx : Loc X.env.scope x) (he : PE X e te) (hs : swapsWith e (some (.Name x pos')) pos.line X.env = pure false := by rfl) (hf : X.fn x = true ∨ X.env.scope.names.lookup x = some .local := by first | exact .inl rfl | exact .inr rfl | assumption) :
    PS X (.Assign [.Name x pos'] e pos) (tAsg te (gName i)) := by
  intro pins s σ H D I h
  refine wpAny_Assign_Name (thn (he pins s σ H _ I h) fun v s1 ⟨y, H1, I1, r1, q1⟩ => ?_) hs
  exact store_ok I1 hN hi hx r1 (fun s2 I2 => ⟨_, H1, I2, q1⟩) hf
/-- a, b = x, y with plain local names: stored from the right; the pair itself is not tracked (the opening rows as in PyProof/Rows/TupAssign.lean:23) -/
def tPar (i j : Nat) (ta : TA) : TS := fun D σ H => ta σ H fun vs H1 => ∃ v w, vs = [v, w] ∧ D.nx ((σ.set i (some v)).set j (some w)) H1
theorem ps_par {i j : Nat} {x y : Str} {a b : Expr} {ta : TA} {px py pt : Pos} {kt k2 pt2} (hc : X.calm = true) (hN : X.N.Nodup) (hi : X.N[i]? = some x) (hj : X.N[j]? = some y) (hij : i ≠ j)
    (hx : X.env.scope.names.lookup x = some .local) (hy : X.env.scope.names.lookup y = some .local) (ha : PA X [a, b] ta)
    (hw : swappedStores [.Tuple [.Name x px, .Name y py] kt pt] (.Tuple [a, b] k2 pt2) X.env = pure (some [x, y]))
    (hs : swapsWithSole [.Tuple [.Name x px, .Name y py] kt pt] (.Tuple [a, b] k2 pt2) pos.line X.env = pure false := by rfl) :
    PS X (.Assign [.Tuple [.Name x px, .Name y py] kt pt] (.Tuple [a, b] k2 pt2) pos) (tPar i j ta) := by
  intro pins s σ H D I h
  rw [exec_Assign_arm]
  refine wpAny_bind (wpAny_standAt ?_)
  rw [hs]
  refine wpAny_bind (wpAny_pure ?_)
  rw [if_neg (by decide)]
  refine wpAny_bind (Tuple_ (thn (ha _ pins s σ H _ I h) fun us s1 ⟨vs, H1, I1, r1, q1⟩ => ?_))
  obtain ⟨v, w, e1, q1⟩ := q1
  subst e1
  obtain ⟨u1, u2, rfl, rv, rw'⟩ : ∃ u1 u2, us = [u1, u2] ∧ RelV v u1 ∧ RelV w u2 := by
    cases r1 with
    | cons p q =>
      cases q with
      | cons p' q' =>
        cases q'
        exact ⟨_, _, rfl, p, p'⟩
  refine wpAny_newObj_type ?_ (by show 2 ≤ sizeLine; decide)
  have I2 : Inv X pins σ H1 { s1 with heap := s1.heap.push { cls := .type "tuple", data := .seq [u1, u2].toArray } } := I1.kept (t' := s1.toks) fun b o e => Heap.get?_push_of_some _ e
  rw [hw]
  refine wpAny_bind (wpAny_pure ?_)
  show wpAny (model X.prog X.w) X.A (do rule "assign.swapped-stores"; let items ← unpackItems (.ref s1.heap.objs.size) 2 none; assignInOrder [fun v => bindName X.env y v, fun v => bindName X.env x v] items.reverse; pure Flow.next) _ _ _
  refine wpAny_bind (wpAny_rule (wpAny_bind (unpackItems_tuple (items := #[u1, u2]) (I.ok.hd hc) (IsTup.new s1.heap _) fun h' hx' => ?_)))
  have I3 := I2.kept (h' := h') (t' := s1.toks) fun b o e => hx' b o (Nat.ne_of_lt (Heap.lt_size e)) e
  show wpAny _ _ (assignInOrder [fun v => bindName X.env y v, fun v => bindName X.env x v] [u2, u1] >>= fun _ => pure Flow.next) _ _ _
  refine wpAny_bind (assignInOrder_cons (wpAny_bindName (store_ok I3 hN hj (.inl hy) rw' (fun s2 I4 => ?_) (.inr hy))))
  refine assignInOrder_cons (wpAny_bindName (store_ok I4 hN hi (.inl hx) rv (fun s3 I5 => assignInOrder_nil (wpAny_pure ?_)) (.inr hx)))
  rw [List.set_comm _ _ (Ne.symm hij)] at I5
  exact ⟨_, H1, I5, q1⟩
/-- name op= e -/
def tAug (i : Nat) (te : TE) (ti : TIp) : TS := fun D σ H => ∃ x, σ[i]? = some (some x) ∧ te σ H fun y H1 => ti x y H1 fun z H2 => D.nx (σ.set i (some z)) H2
theorem ps_aug {i : Nat} {x : Str} {e : Expr} {te : TE} {op : Operator} {ti : TIp} {pos' : Pos} (hN : X.N.Nodup) (hi : X.N[i]? = some x) (hx : Loc X.env.scope x) (he : PE X e te) (ho : PIp X op ti) (hf : X.fn x = true ∨ X.env.scope.names.lookup x = some .local := by first | exact .inl rfl | exact .inr rfl | assumption) :
    PS X (.AugAssign (.Name x pos') op e pos) (tAug i te ti) := by
  intro pins s σ H D I h
  obtain ⟨v, e1, h⟩ := h
  obtain ⟨m, hn, hl⟩ := I.loc
  have vis : Vis X.env.scope x := by rcases hx with k | k; exact .inl k; exact .inr (.inl k)
  obtain ⟨u, r, l⟩ := hl i x v hi e1 vis
  refine wpAny_AugAssign_Name ?_
  have go : wpAny (model X.prog X.w) X.A (eval e X.env) (fun w s₂ => wpAny (model X.prog X.w) X.A (inplaceOp op u w) (fun r s₃ => wpAny (model X.prog X.w) X.A (storeName X.env x r) (fun _ => SP X pins D .next) X.xe s₃) X.xe s₂) X.xe s := by
    refine thn (he pins s σ H _ I h) fun w s1 ⟨y, H1, I1, r1, q1⟩ => ?_
    refine thn (ho pins s1 σ H1 v y u w _ I1 r r1 q1) fun z s2 ⟨zv, H2, I2, r2, q2⟩ => ?_
    exact store_ok I2 hN hi hx r2 (fun s3 I3 => ⟨_, H2, I3, q2⟩) hf
  rcases l with ⟨hk, hm⟩ | ⟨hk, c, hc, hcell⟩
  · exact wpAny_loadName_local I.ok.kind hk hn hm go
  · rcases hk with hk | hk
    · exact wpAny_loadName_cell I.ok.kind hk hc hcell go
    · rcases hx with k | k
      · have : X.env.scope.names.lookup x = some .free := hk
        rw [k] at this; cases this
      · have : X.env.scope.names.lookup x = some .free := hk
        rw [k] at this; cases this
/-- ints -/
def ipI (f : Int → Int → Int) : TIp := fun x y H Q => ∃ i j, x = .int i ∧ y = .int j ∧ Q (.int (f i j)) H
theorem ip_sub : PIp X .Sub (ipI fun i j => i - j) := by
  intro pins s σ H x y v u Q I r1 r2 h
  obtain ⟨i, j, e1, e2, q⟩ := h
  subst e1; subst e2
  obtain ⟨t, rfl⟩ := r1
  obtain ⟨t', rfl⟩ := r2
  exact isub_int ⟨.int _, H, I.tok _, ⟨_, rfl⟩, q⟩
end

/-! ### while -/
section
variable {X : Cx} {pos : Pos}
/-- the invariant W with its measure -/
def tWhile (c : TT) (tb : TS) : TS := fun D σ H => ∃ W : Nat → St → Hp → Prop, (∃ m, W m σ H) ∧ ∀ m σ H, W m σ H →
  c σ H fun b H1 => if b = true then ∃ N : St → Hp → Prop, (∀ σ' H', N σ' H' → ∃ m', m' < m ∧ W m' σ' H') ∧ tb { D with nx := N, ct := N, bk := D.nx } σ H1 else D.nx σ H1
theorem ps_while {c : Expr} {body : List Stmt} {tc : TT} {tb : TS} (hp : PassesOwn (model X.prog X.w) X.A X.env X.xe) (hc : PT X c tc) (hb : PSs X body tb) : PS X (.While c body [] pos) (tWhile tc tb) := by
  intro pins s σ H D I h
  obtain ⟨W, ⟨m0, w0⟩, turn⟩ := h
  refine wpAny_While (codeAny_whileLoop (fun n s' => ∃ σ' H', Inv X pins σ' H' s' ∧ W n σ' H') ?_ m0 ⟨σ, H, I, w0⟩)
  rintro n s1 ⟨σ1, H1, I1, w1⟩
  refine wpAny_passesOwn hp (thn (hc pins s1 σ1 H1 _ I1 (turn n σ1 H1 w1)) fun b s2 ⟨H2, I2, q2⟩ => ?_)
  cases b with
  | true =>
    obtain ⟨N, hN, q2⟩ := q2
    rw [if_pos rfl]
    refine wpAny_passesOwn hp (thn (hb pins s2 σ1 H2 _ I2 q2) fun f s3 q3 => ?_)
    cases f with
    | next =>
      obtain ⟨σ3, H3, I3, n3⟩ := q3
      obtain ⟨m', hm, w3⟩ := hN σ3 H3 n3
      exact ⟨m', hm, σ3, H3, I3, w3⟩
    | cont =>
      obtain ⟨σ3, H3, I3, n3⟩ := q3
      obtain ⟨m', hm, w3⟩ := hN σ3 H3 n3
      exact ⟨m', hm, σ3, H3, I3, w3⟩
    | brk => exact q3
    | ret v => exact q3
  | false =>
    rw [if_neg Bool.false_ne_true]
    exact wpAny_execs_nil ⟨σ1, H2, I2, q2⟩
end

/-! ### what a loop or a comprehension walks -/
/-- at turn i: it yields x (the heap may grow), or it stops -/
structure It where
  go : Nat → Hp → Prop
  yld : Nat → Hp → V → Hp → Prop
  stop : Nat → Hp → Prop
/-- the iterator's own objects may turn: they are not the frame's, not pinned, younger than the entry (or a comprehension's own) -/
def FpOk (X : Cx) (pins : List (Addr × Obj)) (H : Hp) (b : Addr) : Prop :=
  H b = none ∧ b ≠ X.env.locals ∧ b ∉ X.fs ∧ (b ∈ X.ex ∨ X.s₀.heap.objs.size ≤ b) ∧ (∀ x c, X.env.cells.lookup x = some c → c ≠ b) ∧ ∀ p ∈ X.pn ++ pins, p.1 ≠ b
theorem Inv.fpOk {X : Cx} {pins : List (Addr × Obj)} {σ : St} {H H' : Hp} {s : Shared} {b : Addr} (I : Inv X pins σ H s) (hb : s.heap.objs.size ≤ b) (hn : H' b = none) : FpOk X pins H' b := by
  refine ⟨hn, Nat.ne_of_gt (Nat.lt_of_lt_of_le I.lt hb), I.nofs hb, .inr (Nat.le_trans I.sz hb), fun x c e z => ?_, fun p hp z => ?_⟩
  · obtain ⟨v, q⟩ := I.cell x c e
    exact absurd (Nat.lt_of_lt_of_le q.lt (by rw [z]; exact hb)) (Nat.lt_irrefl _)
  · exact absurd (Nat.lt_of_lt_of_le (Heap.lt_size (I.pin p hp).1) (by rw [z]; exact hb)) (Nat.lt_irrefl _)
structure Turn (P : Program) (w : World) (K : PySem.W.Frag) (tg : Expr) (J : It) (fp : List Addr) (it : Addr) (tn : Nat → Heap → Prop) : Prop where
  mem : it ∈ fp
  obj : ∀ i h, tn i h → ∀ b ∈ fp, ∃ o, h.get? b = some o ∧ ∀ v, o.data ≠ .cell v
  keep : ∀ i h h', tn i h → (∀ b ∈ fp, ∀ o, h.get? b = some o → h'.get? b = some o) → tn i h'
  item : ∀ (X : Cx), X.prog = P → X.w = w → X.K = K → X.calm = true → ∀ (i : Nat) (pins : List (Addr × Obj)) (s : Shared) (σ : St) (H : Hp) (E : Value → Shared → Prop), Inv X pins σ H s → (∀ b ∈ fp, FpOk X pins H b) → tn i s.heap → J.go i H →
    wpAny (model P w) X.A (pyNext (.ref it)) (fun r s1 => ∃ u, r = some u ∧
      wpAny (model P w) X.A (letOwnedTupleGo tg (.ref it) u) (fun _ s2 => ∃ x H', Inv X pins σ H' s2 ∧ RelV x u ∧ J.yld i H x H' ∧ tn (i + 1) s2.heap ∧ ∀ b ∈ fp, H' b = none) E s1) E s
  done : ∀ (X : Cx), X.prog = P → X.w = w → X.K = K → X.calm = true → ∀ (i : Nat) (pins : List (Addr × Obj)) (s : Shared) (σ : St) (H : Hp) (E : Value → Shared → Prop), Inv X pins σ H s → (∀ b ∈ fp, FpOk X pins H b) → tn i s.heap → J.stop i H →
    wpAny (model P w) X.A (pyNext (.ref it)) (fun r s1 => r = none ∧ Inv X pins σ H s1) E s
  self : ∀ (A : Around) (i : Nat) (s : Shared) (Q : Value → Shared → Prop) (E : Value → Shared → Prop), tn i s.heap → Q (.ref it) s → wpAny (model P w) A (pyIter (.ref it)) Q E s
abbrev TI := St → Hp → (It → Hp → Prop) → Prop
/-- an iterator has come -/
def PIE (X : Cx) (pins : List (Addr × Obj)) (σ : St) (tg : Expr) (R : It → Hp → Prop) (itv : Value) (s2 : Shared) : Prop :=
  ∃ (it : Addr) (fp : List Addr) (tn : Nat → Heap → Prop) (J : It) (H' : Hp), itv = .ref it ∧ Inv X pins σ H' s2 ∧ Turn X.prog X.w X.K tg J fp it tn ∧ tn 0 s2.heap ∧ (∀ b ∈ fp, FpOk X pins H' b) ∧ R J H'
def PI (X : Cx) (tg iter : Expr) (wi : TI) : Prop :=
  ∀ (pins : List (Addr × Obj)) (s : Shared) (σ : St) (H : Hp) (R : It → Hp → Prop), Inv X pins σ H s → wi σ H R →
    wpAny (model X.prog X.w) X.A (eval iter X.env) (fun v s1 => wpAny (model X.prog X.w) X.A (pyIter v) (PIE X pins σ tg R) X.xe s1) X.xe s

/-- the step ahead of the store is nothing for an iterator that keeps no tuple -/
theorem go_of {M : Model} {A : Around} {E : Value → Shared → Prop} {s : Shared} {tg : Expr} {it : Addr} {u : Value} {o : Obj} {n : String} {vs : Array Value} {Q : Unit → Shared → Prop} (ho : s.heap.get? it = some o) (hc : o.cls = .type n) (hd : o.data = .fields vs)
    (hn : ["enumerate", "zip", "dict_itemiterator", "dict_reverseitemiterator", "odict_iterator", "itertools.zip_longest", "itertools.pairwise"].contains n = false) (hQ : Q () s) : wpAny M A (letOwnedTupleGo tg (.ref it) u) Q E s := by
  unfold letOwnedTupleGo
  cases tg <;> first
    | exact wpAny_pure hQ
    | (cases u <;> first
        | exact wpAny_pure hQ
        | (refine wpAny_bind (wpAny_load ho ?_)
           rw [hc, hd]
           show wpAny M A (if (["enumerate", "zip", "dict_itemiterator", "dict_reverseitemiterator", "odict_iterator", "itertools.zip_longest", "itertools.pairwise"].contains n && vs[0]? == some (rawInt _)) = true then _ else _) Q E s
           rw [if_neg (by intro h; rw [hn, Bool.false_and] at h; cases h)]
           exact wpAny_pure hQ))

/-- the list at a, as it stands at each turn (a loop may append to it) -/
def Itl (K : PySem.W.Frag) (a : Addr) : It :=
  ⟨fun i H => ∃ xs x, SqL K H a xs ∧ xs[i]? = some x, fun i H x H' => H' = H ∧ ∀ xs, SqL K H a xs → xs[i]? = some x, fun i H => ∃ xs, SqL K H a xs ∧ xs.length ≤ i⟩
/-- lo, lo + 1, .. (n of them) -/
def Itr (lo : Int) (n : Nat) : It := ⟨fun i _ => i < n, fun i H x H' => H' = H ∧ x = .int (lo + i), fun i _ => n ≤ i⟩
theorem turn_list {P : Program} {w : World} {K : PySem.W.Frag} {tg : Expr} (a it : Addr) : Turn P w K tg (Itl K a) [it] it (fun i h => h.IsListIter it a i) where
  mem := by simp
  obj := fun i h st b hb => by
    have e : b = it := by simpa using hb
    subst e
    obtain ⟨o, e, c, d⟩ := st
    exact ⟨o, e, fun v z => by rw [d] at z; cases z⟩
  keep := fun i h h' st k => st.at fun o e => k it (by simp) o e
  item := by
    intro X hP hw hK hc i pins s σ H E I hf st hg
    subst hP hw hK
    obtain ⟨xs, x, hq, hx⟩ := hg
    obtain ⟨its, rv, p, hz⟩ := I.list hq
    obtain ⟨u, hu, ru⟩ := rv.get hx
    obtain ⟨f0, f1, f2, f3, f4, f5⟩ := hf it (by simp)
    refine wpAny_pyNext_list_item st p.isList (x := u) (by simpa using hu) fun h' st' sb => ?_
    have I1 : Inv X pins σ H { s with heap := h' } := I.turned (t' := s.toks) (fun b o hb e => (sb.2 b hb).trans e) f0 f1 f3 f4 f5
    obtain ⟨o, e, c, d⟩ := id st'
    exact ⟨u, rfl, go_of (s := { s with heap := h' }) e c d (by decide) ⟨x, H, I1, ru, ⟨rfl, fun ys hy => by rw [I.list_inj hy hq]; exact hx⟩, st', fun b hb => (hf b hb).1⟩⟩
  done := by
    intro X hP hw hK hc i pins s σ H E I hf st hg
    subst hP hw hK
    obtain ⟨xs, hq, hx⟩ := hg
    obtain ⟨its, rv, p, hz⟩ := I.list hq
    obtain ⟨f0, f1, f2, f3, f4, f5⟩ := hf it (by simp)
    have hl := rv.length
    exact wpAny_pyNext_list_end (I.ok.hd hc) st p.isList (by simp; omega) fun h' eb => ⟨rfl, I.turned (t' := s.toks) (fun b o hb e => eb b o hb e) f0 f1 f3 f4 f5⟩
  self := fun _ _ _ _ _ st h => wpAny_pyIter_listiter st h
theorem turn_range {P : Program} {w : World} {K : PySem.W.Frag} {tg : Expr} (it : Addr) (lo : Int) (n : Nat) : Turn P w K tg (Itr lo n) [it] it (fun i h => IsRangeIter h it (lo + (i : Nat) * 1) ((n : Int) - (i : Nat)) 1) where
  mem := by simp
  obj := fun i h st b hb => by
    have e : b = it := by simpa using hb
    subst e
    exact ⟨_, st, fun v z => by
      have z' : Data.fields _ = Data.cell v := z
      cases z'⟩
  keep := fun i h h' st k => k it (by simp) _ st
  item := by
    intro X hP hw hK hc i pins s σ H E I hf st hg
    subst hP hw hK
    obtain ⟨f0, f1, f2, f3, f4, f5⟩ := hf it (by simp)
    have W := Walks.range (prog := X.prog) (w := X.w) (I.ok.hd hc) it lo 1 n
    refine W.item i s _ _ hg st fun v h' tk hv st' kk => ?_
    obtain ⟨t, rfl⟩ := hv
    have I1 : Inv X pins σ H { s with heap := h', toks := tk } := I.turned (fun b o hb e => kk b o (by simpa using hb) e) f0 f1 f3 f4 f5
    refine ⟨_, rfl, go_of (s := { s with heap := h', toks := tk }) (n := "range_iterator") st' rfl rfl (by decide) ⟨.int (lo + i), H, I1, ⟨t, ?_⟩, ⟨rfl, rfl⟩, st', fun b hb => (hf b hb).1⟩⟩
    rw [Int.mul_one]
  done := by
    intro X hP hw hK hc i pins s σ H E I hf st hg
    subst hP hw hK
    obtain ⟨f0, f1, f2, f3, f4, f5⟩ := hf it (by simp)
    exact wpAny_pyNext_range_end (I.ok.hd hc) st (by have : n ≤ i := hg; omega) fun h' eb => ⟨rfl, I.turned (t' := s.toks) (fun b o hb e => eb b o hb e) f0 f1 f3 f4 f5⟩
  self := fun _ _ _ _ _ st h => wpAny_pyIter_rangeiter st h
end L2

namespace L2
open PySem PySem.Spec PyProof.Rows
section
variable {X : Cx} {tg : Expr}
def iList (K : PySem.W.Frag) (tl : TE) : TI := fun σ H R => tl σ H fun x H1 => ∃ a, x = .ref a ∧ (∃ xs, SqL K H1 a xs) ∧ R (Itl K a) H1
theorem pi_list {l : Expr} {tl : TE} (hl : PE X l tl) : PI X tg l (iList X.K tl) := by
  intro pins s σ H R I h
  refine thn (hl pins s σ H _ I h) fun v s1 ⟨x, H1, I1, r1, q1⟩ => ?_
  obtain ⟨a, e, ⟨xs, hq⟩, q⟩ := q1
  subst e
  cases r1
  obtain ⟨its, rv, p, hz⟩ := I1.list hq
  refine wpAny_pyIter_list p.isList ?_
  refine ⟨s1.heap.objs.size, [s1.heap.objs.size], _, _, H1, rfl, I1.kept (t' := s1.toks) fun b o e => Heap.get?_push_of_some _ e, turn_list a _, ⟨_, Heap.get?_push_size _ rfl, rfl, rfl⟩, fun b hb => ?_, q⟩
  have e : b = s1.heap.objs.size := by simpa using hb
  subst e
  exact I1.fpOk (Nat.le_refl _) (I1.hok.fresh (Nat.le_refl _))
/-- a range object just made, walked -/
theorem range_it {pins : List (Addr × Obj)} {σ : St} {H : Hp} {s : Shared} {R : It → Hp → Prop} {E : Value → Shared → Prop} {lo hi : Int} {t u v : Tok} {tk : Nat} (I : Inv X pins σ H s) (h1 : -(2 ^ 62) ≤ lo) (h2 : lo < 2 ^ 62) (h3 : -(2 ^ 62) ≤ hi) (h4 : hi < 2 ^ 62)
    (q : R (Itr lo (hi - lo).toNat) H) : wpAny (model X.prog X.w) X.A (pyIter (.ref s.heap.objs.size)) (PIE X pins σ tg R) E { s with heap := s.heap.push { cls := .type "range", data := .fields #[.int lo t, .int hi u, .int 1 v] }, toks := tk } := by
  refine wpAny_pyIter_range (IsRange.new ..) (small_one h1 h2 h3 h4) ?_
  have I1 : Inv X pins σ H { s with heap := s.heap.push { cls := .type "range", data := .fields #[.int lo t, .int hi u, .int 1 v] }, toks := tk } := I.kept fun b o e => Heap.get?_push_of_some _ e
  refine ⟨(s.heap.push { cls := .type "range", data := .fields #[.int lo t, .int hi u, .int 1 v] }).objs.size, [(s.heap.push { cls := .type "range", data := .fields #[.int lo t, .int hi u, .int 1 v] }).objs.size], _, _, H, rfl,
    I1.kept (t' := tk) fun b o e => Heap.get?_push_of_some _ e, turn_range _ lo (hi - lo).toNat, ?_, fun b hb => ?_, q⟩
  · have e1 : lo + ((0 : Nat) : Int) * 1 = lo := by simp
    have e2 : (((hi - lo).toNat : Nat) : Int) - ((0 : Nat) : Int) = Builtin.Range.rangeSize lo hi 1 := by rw [rangeSize_one]; split <;> omega
    show IsRangeIter _ _ (lo + ((0 : Nat) : Int) * 1) ((((hi - lo).toNat : Nat) : Int) - ((0 : Nat) : Int)) 1
    rw [e1, e2]
    exact Heap.get?_push_size _ rfl
  · have e : b = (s.heap.push { cls := .type "range", data := .fields #[.int lo t, .int hi u, .int 1 v] }).objs.size := by simpa using hb
    subst e
    exact I1.fpOk (Nat.le_refl _) (I1.hok.fresh (Nat.le_refl _))
def iRng1 (ta : TA) : TI := fun σ H R => ta σ H fun vs H1 => ∃ j : Int, vs = [.int j] ∧ -(2 ^ 62) ≤ j ∧ j < 2 ^ 62 ∧ R (Itr 0 j.toNat) H1
theorem pi_range1 {a : Expr} {ta : TA} {p pos : Pos} (hg : Gl X "range") (hm : X.mg "range" = none) (ha : PA X [a] ta) (hs : starEach [a] X.env = [(false, eval a X.env)] := by rfl) : PI X tg (.Call (.Name "range" p) [a] [] pos) (iRng1 ta) := by
  intro pins s σ H R I h
  refine Call_ (ld_blt I hg hm boot_range (PyProof.Rows.callWith_type1 (thn (ha pos pins s σ H _ I h) fun us s1 ⟨vs, H1, I1, r1, q1⟩ => ?_) hs rfl))
  obtain ⟨j, e, q1, q2, q⟩ := q1
  subst e
  cases r1 with
  | cons r rr =>
    cases rr
    obtain ⟨t, rfl⟩ := r
    exact call_range_1 (range_it I1 (by omega) (by omega) q1 q2 (by simpa using q))
/-! ### for -/
/-- W: the invariant by the turn and a measure; N: what the body is to reach -/
def tFor (wi : TI) (g : TG) (tb : TS) : TS := fun D σ H => wi σ H fun J H1 => ∃ W : Nat → Nat → St → Hp → Prop, (∃ m, W 0 m σ H1) ∧ ∀ i m σ H, W i m σ H →
  (J.stop i H ∧ D.nx σ H) ∨ (J.go i H ∧ ∃ N : St → Hp → Prop, (∀ σ' H', N σ' H' → ∃ m', m' < m ∧ W (i + 1) m' σ' H') ∧ ∀ x H', J.yld i H x H' → g x σ H' fun σ2 H2 => tb { D with nx := N, ct := N, bk := D.nx } σ2 H2)
/-- the records at fp as they stand -/
def pinsAt (fp : List Addr) (h : Heap) : List (Addr × Obj) := fp.filterMap fun b => (h.get? b).map fun o => (b, o)
theorem mem_pinsAt {fp : List Addr} {h : Heap} {b : Addr} {o : Obj} (hb : b ∈ fp) (e : h.get? b = some o) : (b, o) ∈ pinsAt fp h := List.mem_filterMap.mpr ⟨b, hb, by rw [e]; rfl⟩
theorem of_pinsAt {fp : List Addr} {h : Heap} {p : Addr × Obj} (hp : p ∈ pinsAt fp h) : p.1 ∈ fp ∧ h.get? p.1 = some p.2 := by
  obtain ⟨b, hb, e⟩ := List.mem_filterMap.mp hp
  cases q : h.get? b with
  | none => rw [q] at e; cases e
  | some o =>
    rw [q] at e
    have e' : (b, o) = p := Option.some.inj e
    subst e'
    exact ⟨hb, q⟩
theorem Inv.pinned {pins : List (Addr × Obj)} {σ : St} {H : Hp} {s : Shared} {fp : List Addr} (I : Inv X pins σ H s) (hf : ∀ b ∈ fp, FpOk X pins H b) (ho : ∀ b ∈ fp, ∃ o, s.heap.get? b = some o ∧ ∀ v, o.data ≠ .cell v) : Inv X (pins ++ pinsAt fp s.heap) σ H s :=
  I.pins_of fun p hp => (List.mem_append.mp hp).elim (fun z => I.pin p (List.mem_append_right _ z)) fun z => by
    obtain ⟨hb, e⟩ := of_pinsAt z
    obtain ⟨f0, f1, f2, _⟩ := hf p.1 hb
    obtain ⟨o, e', d⟩ := ho p.1 hb
    rw [e] at e'; cases e'
    exact ⟨e, f0, f1, f2, d⟩
theorem Inv.unpinned {pins pl : List (Addr × Obj)} {σ : St} {H : Hp} {s : Shared} (I : Inv X (pins ++ pl) σ H s) : Inv X pins σ H s := I.pins_of fun p hp => I.pin p (List.mem_append_right _ (List.mem_append_left _ hp))
theorem ps_for {iter : Expr} {body : List Stmt} {wi : TI} {g : TG} {tb : TS} {pos : Pos} (hp : PassesOwn (model X.prog X.w) X.A X.env X.xe) (hc : X.calm = true) (hi : PI X tg iter wi) (hg : PG X tg g) (hb : PSs X body tb)
    (hs : ∀ x, foldedSetIterable iter X.env x = pure x := by intro _; rfl) : PS X (.For tg iter body [] pos) (tFor wi g tb) := by
  intro pins s σ H D I h
  refine wpAny_For (thn (hi pins s σ H _ I h) fun v s1 h1 => thn h1 fun itv s2 h2 => ?_) hs
  obtain ⟨it, fp, tn, J, H2, e, I2, T, st2, f2, W, ⟨m0, w0⟩, turn⟩ := h2
  subst e
  -- what stays true of the iterator's objects through the loop
  have stat : ∀ {H' : Hp}, (∀ b ∈ fp, H' b = none) → ∀ b ∈ fp, FpOk X pins H' b := fun hn b hb => ⟨hn b hb, (f2 b hb).2⟩
  refine codeAny_forLoop_any (fun n s' => ∃ i σ' H', Inv X pins σ' H' s' ∧ tn i s'.heap ∧ (∀ b ∈ fp, H' b = none) ∧ W i n σ' H') ?_ m0 ⟨0, σ, H2, I2, st2, fun b hb => (f2 b hb).1, w0⟩
  rintro n s3 ⟨i, σ3, H3, I3, st3, fr3, w3⟩
  rcases turn i n σ3 H3 w3 with ⟨stop, qn⟩ | ⟨go, N, hN, step⟩
  · refine wpAny_passesOwn hp (thn (T.done X rfl rfl rfl hc i pins s3 σ3 H3 X.xe I3 (stat fr3) st3 stop) fun r s4 ⟨hr, I4⟩ => ?_)
    subst hr
    exact wpAny_execs_nil ⟨σ3, H3, I4, qn⟩
  · refine wpAny_passesOwn hp (thn (T.item X rfl rfl rfl hc i pins s3 σ3 H3 X.xe I3 (stat fr3) st3 go) fun r s4 ⟨u, hr, h4⟩ => ?_)
    subst hr
    refine wpAny_passesOwn hp (thn h4 fun _ s5 ⟨x, H5, I5, r5, y5, st5, fr5⟩ => ?_)
    have I5' := I5.pinned (stat fr5) (T.obj _ _ st5)
    refine wpAny_passesOwn hp (thn (hg _ s5 σ3 H5 x u _ I5' r5 (step x H5 y5)) fun _ s6 ⟨σ6, H6, I6, q6⟩ => ?_)
    refine wpAny_passesOwn hp (thn (hb _ s6 σ6 H6 _ I6 q6) fun f s7 q7 => ?_)
    have again : ∀ {σ7 : St} {H7 : Hp}, Inv X (pins ++ pinsAt fp s5.heap) σ7 H7 s7 → N σ7 H7 → ∃ m, m < n ∧ ∃ i σ' H', Inv X pins σ' H' s7 ∧ tn i s7.heap ∧ (∀ b ∈ fp, H' b = none) ∧ W i m σ' H' := fun {σ7 H7} I7 n7 => by
      obtain ⟨m', hm, w7⟩ := hN σ7 H7 n7
      refine ⟨m', hm, i + 1, σ7, H7, I7.unpinned, T.keep _ _ _ st5 fun b hb o e => (I7.pin (b, o) (List.mem_append_right _ (List.mem_append_right _ (mem_pinsAt hb e)))).1, fun b hb => ?_, w7⟩
      obtain ⟨o, e, d⟩ := T.obj _ _ st5 b hb
      exact (I7.pin (b, o) (List.mem_append_right _ (List.mem_append_right _ (mem_pinsAt hb e)))).2.1
    cases f with
    | next => obtain ⟨σ7, H7, I7, n7⟩ := q7; exact again I7 n7
    | cont => obtain ⟨σ7, H7, I7, n7⟩ := q7; exact again I7 n7
    | brk => obtain ⟨σ7, H7, I7, q7⟩ := q7; exact ⟨σ7, H7, I7.unpinned, q7⟩
    | ret v => obtain ⟨x7, σ7, H7, I7, r7, q7⟩ := q7; exact ⟨x7, σ7, H7, I7.unpinned, r7, q7⟩
end

/-! ### the forms one uses -/
end L2

namespace L2
open PySem PySem.Spec PyProof.Rows

abbrev R2 := V → V → Hp → VK → Prop
/-- a two-place operation on values: f is binaryOp op, inplaceOp op or compareOp op -/
def OpR (X : Cx) (f : Value → Value → Sem Value) (r : R2) : Prop :=
  ∀ (pins : List (Addr × Obj)) (s : Shared) (σ : St) (H : Hp) (x y : V) (v u : Value) (Q : VK), Inv X pins σ H s → RelV x v → RelV y u → r x y H Q →
    wpAny (model X.prog X.w) X.A (f v u) (EP X pins σ Q) X.xe s
/-- a one-place operation -/
def UnR (X : Cx) (f : Value → Sem Value) (r : V → Hp → VK → Prop) : Prop :=
  ∀ (pins : List (Addr × Obj)) (s : Shared) (σ : St) (H : Hp) (x : V) (v : Value) (Q : VK), Inv X pins σ H s → RelV x v → r x H Q →
    wpAny (model X.prog X.w) X.A (f v) (EP X pins σ Q) X.xe s
/-- a call of a value that is known (a builtin, a type) with values -/
def CallR (X : Cx) (f : Value) (r : List V → Hp → VK → Prop) : Prop :=
  ∀ (pins : List (Addr × Obj)) (s : Shared) (σ : St) (H : Hp) (xs : List V) (us : List Value) (Q : VK), Inv X pins σ H s → Vals xs us → r xs H Q →
    wpAny (model X.prog X.w) X.A (call f us) (EP X pins σ Q) X.xe s
def tOp (r : R2) (ta tb : TE) : TE := fun σ H Q => ta σ H fun x H1 => tb σ H1 fun y H2 => r x y H2 Q
def tUn (r : V → Hp → VK → Prop) (ta : TE) : TE := fun σ H Q => ta σ H fun x H1 => r x H1 Q
/-- ints in, under C, and a value out -/
def rI (C : Int → Int → Prop) (g : Int → Int → V) : R2 := fun x y H Q => ∃ i j, x = .int i ∧ y = .int j ∧ C i j ∧ Q (g i j) H
def rI0 (g : Int → Int → V) : R2 := fun x y H Q => ∃ i j, x = .int i ∧ y = .int j ∧ Q (g i j) H
def rU (g : Int → V) : V → Hp → VK → Prop := fun x H Q => ∃ i, x = .int i ∧ Q (g i) H

section
variable {X : Cx} {a b c : Expr} {ta tb tc : TE} {pos : Pos}

theorem binT (ha : PE X a ta) (hb : PE X b tb) {pins : List (Addr × Obj)} {s : Shared} {σ : St} {H : Hp} {R : V → V → Hp → Prop} (I : Inv X pins σ H s)
    (h : ta σ H fun x H1 => tb σ H1 fun y H2 => R x y H2) {Q : Value → Shared → Prop} {f : Value → Value → Sem Value}
    (hf : ∀ v u s2 x y H2, Inv X pins σ H2 s2 → RelV x v → RelV y u → R x y H2 → wpAny (model X.prog X.w) X.A (f v u) Q X.xe s2) :
    wpAny (model X.prog X.w) X.A (eval a X.env) (fun v s₁ => wpAny (model X.prog X.w) X.A (eval b X.env) (fun u s₂ => wpAny (model X.prog X.w) X.A (f v u) Q X.xe s₂) X.xe s₁) X.xe s := by
  refine thn (ha pins s σ H _ I h) fun v s1 ⟨x, H1, I1, r1, q1⟩ => ?_
  refine thn (hb pins s1 σ H1 _ I1 q1) fun u s2 ⟨y, H2, I2, r2, q2⟩ => ?_
  exact hf v u s2 x y H2 I2 r1 r2 q2

theorem pe_op {op : Operator} {r : R2} (ho : OpR X (binaryOp op) r) (ha : PE X a ta) (hb : PE X b tb) : PE X (.BinOp a op b pos) (tOp r ta tb) := by
  intro pins s σ H Q I h
  exact wpAny_BinOp (binT ha hb I h fun v u s2 x y H2 I2 rx ry q => ho pins s2 σ H2 x y v u Q I2 rx ry q)
theorem pe_un {op : UnaryOp} {r : V → Hp → VK → Prop} (ho : UnR X (unaryOp op) r) (ha : PE X a ta) : PE X (.UnaryOp op a pos) (tUn r ta) := by
  intro pins s σ H Q I h
  exact UnaryOp_ (thn (ha pins s σ H _ I h) fun v s1 ⟨x, H1, I1, r1, q1⟩ => ho pins s1 σ H1 x v Q I1 r1 q1)
/-! ### ints -/
theorem opI {f : Value → Value → Sem Value} {C : Int → Int → Prop} {g : Int → Int → Int}
    (rule : ∀ (i j : Int) (t u : Tok) (s : Shared) (Q : Value → Shared → Prop) (E : Value → Shared → Prop), C i j → Q (.int (g i j) s.toks) { s with toks := s.toks + 1 } → wpAny (model X.prog X.w) X.A (f (.int i t) (.int j u)) Q E s) :
    OpR X f (rI C fun i j => .int (g i j)) := by
  intro pins s σ H x y v u Q I rx ry h
  obtain ⟨i, j, rfl, rfl, hc, q⟩ := h
  obtain ⟨t, rfl⟩ := rx
  obtain ⟨t', rfl⟩ := ry
  exact rule i j t t' s _ _ hc ⟨.int (g i j), H, I.tok _, ⟨_, rfl⟩, q⟩
theorem opI0 {f : Value → Value → Sem Value} {g : Int → Int → Int}
    (rule : ∀ (i j : Int) (t u : Tok) (s : Shared) (Q : Value → Shared → Prop) (E : Value → Shared → Prop), Q (.int (g i j) s.toks) { s with toks := s.toks + 1 } → wpAny (model X.prog X.w) X.A (f (.int i t) (.int j u)) Q E s) :
    OpR X f (rI0 fun i j => .int (g i j)) := by
  intro pins s σ H x y v u Q I rx ry h
  obtain ⟨i, j, rfl, rfl, q⟩ := h
  obtain ⟨t, rfl⟩ := rx
  obtain ⟨t', rfl⟩ := ry
  exact rule i j t t' s _ _ ⟨.int (g i j), H, I.tok _, ⟨_, rfl⟩, q⟩
theorem opB0 {f : Value → Value → Sem Value} {g : Int → Int → Bool}
    (rule : ∀ (i j : Int) (t u : Tok) (s : Shared) (Q : Value → Shared → Prop) (E : Value → Shared → Prop), Q (.bool (g i j)) s → wpAny (model X.prog X.w) X.A (f (.int i t) (.int j u)) Q E s) :
    OpR X f (rI0 fun i j => .bl (g i j)) := by
  intro pins s σ H x y v u Q I rx ry h
  obtain ⟨i, j, rfl, rfl, q⟩ := h
  obtain ⟨t, rfl⟩ := rx
  obtain ⟨t', rfl⟩ := ry
  exact rule i j t t' s _ _ ⟨.bl (g i j), H, I, rfl, q⟩

def CPow (i j : Int) : Prop := 0 ≤ j ∧ j ≤ 1000000 ∧ i.natAbs < 2 ^ 64
theorem op_add : OpR X (binaryOp .Add) (rI0 fun i j => .int (i + j)) := opI0 fun _ _ _ _ _ _ _ q => add_int q
theorem op_sub : OpR X (binaryOp .Sub) (rI0 fun i j => .int (i - j)) := opI0 fun _ _ _ _ _ _ _ q => sub_int q
/-- % by a positive divisor of any size -/
theorem op_mod : OpR X (binaryOp .Mod) (rI (fun _ j => 0 < j) fun i j => .int (i % j)) := opI fun i j _ _ _ _ _ hc q => by
  have h1 : (0 : Int) < j := hc
  exact mod_int' (by omega) (by rw [Int.fmod_eq_emod_of_nonneg i (by omega)]; exact q)
theorem op_pow : OpR X (binaryOp .Pow) (rI CPow fun i j => .int (i ^ j.toNat)) := opI fun _ _ _ _ _ _ _ hc q => pow_int_small hc.1 hc.2.1 hc.2.2 q
theorem unI {f : Value → Sem Value} {g : Int → Int}
    (rule : ∀ (i : Int) (t : Tok) (s : Shared) (Q : Value → Shared → Prop) (E : Value → Shared → Prop), Q (.int (g i) s.toks) { s with toks := s.toks + 1 } → wpAny (model X.prog X.w) X.A (f (.int i t)) Q E s) :
    UnR X f (rU fun i => .int (g i)) := by
  intro pins s σ H x v Q I rx h
  obtain ⟨i, rfl, q⟩ := h
  obtain ⟨t, rfl⟩ := rx
  exact rule i t s _ _ ⟨.int (g i), H, I.tok _, ⟨_, rfl⟩, q⟩
theorem un_neg : UnR X (unaryOp .USub) (rU fun i => .int (-i)) := unI fun _ _ _ _ _ q => neg_int q
end

/-! ### comparisons -/
section
variable {X : Cx} {a b c : Expr} {ta tb tc : TE} {pos : Pos}
theorem op_lt : OpR X (compareOp .Lt) (rI0 fun i j => .bl (decide (i < j))) := opB0 fun _ _ _ _ _ _ _ q => lt_int q
theorem op_le : OpR X (compareOp .LtE) (rI0 fun i j => .bl (decide (i ≤ j))) := opB0 fun _ _ _ _ _ _ _ q => le_int q
theorem op_gt : OpR X (compareOp .Gt) (rI0 fun i j => .bl (decide (j < i))) := opB0 fun _ _ _ _ _ _ _ q => gt_int q
theorem op_ge : OpR X (compareOp .GtE) (rI0 fun i j => .bl (decide (j ≤ i))) := opB0 fun _ _ _ _ _ _ _ q => ge_int q
theorem nomark (b : Expr) {op : CmpOp} (h : op ≠ .In := by decide) (h2 : op ≠ .NotIn := by decide) : behindInMarks op b = false := by
  have e1 : (op == CmpOp.In) = false := by cases op <;> first | rfl | exact absurd rfl h
  have e2 : (op == CmpOp.NotIn) = false := by cases op <;> first | rfl | exact absurd rfl h2
  cases b <;> simp [behindInMarks, e1, e2]
/-- a comparison as a value; hm: nomark b, or (for in, not in) by with_unfolding_all rfl -/
theorem pe_cmpR {op : CmpOp} {r : R2} (ho : OpR X (compareOp op) r) (ha : PE X a ta) (hb : PE X b tb) (hm : behindInMarks op b = false) : PE X (.Compare a [op] [b] pos) (tOp r ta tb) := by
  intro pins s σ H Q I h
  exact wpAny_Compare1 (binT ha hb I h fun v u s2 x y H2 I2 rx ry q => ho pins s2 σ H2 x y v u Q I2 rx ry q) hm
/-- a reading of a value as a test -/
def tTest (t : TE) : TT := fun σ H Q => t σ H fun x H' => ∃ k, x = .bl k ∧ Q k H'
theorem pt_cmpR {op : CmpOp} {r : R2} (ho : OpR X (compareOp op) r) (ha : PE X a ta) (hb : PE X b tb) (hm : behindInMarks op b = false) : PT X (.Compare a [op] [b] pos) (tTest (tOp r ta tb)) := by
  intro pins s σ H Q I h
  refine wpAny_isTrue_Compare1 (thn (ha pins s σ H _ I h) fun v s1 ⟨x, H1, I1, r1, q1⟩ => thn (hb pins s1 σ H1 _ I1 q1) fun u s2 ⟨y, H2, I2, r2, q2⟩ =>
    thn (ho pins s2 σ H2 x y v u _ I2 r1 r2 q2) fun c s3 ⟨z, H3, I3, r3, k, e, q3⟩ => ?_) hm
  subst e
  cases r3
  exact wpAny_truthy_bool ⟨H3, I3, q3⟩
/-! ### truth -/
theorem line63 : (sizeLine : Nat) < 2 ^ 63 := by rw [sizeLine_eq]; decide
/-! ### scalar builtins, by CallR -/
theorem vals1 {x : V} {us : List Value} (r : Vals [x] us) : ∃ u, us = [u] ∧ RelV x u := by
  cases r with
  | cons r1 r2 => cases r2; exact ⟨_, rfl, r1⟩
theorem vals2 {x y : V} {us : List Value} (r : Vals [x, y] us) : ∃ u w', us = [u, w'] ∧ RelV x u ∧ RelV y w' := by
  cases r with
  | cons r1 r2 =>
    cases r2 with
    | cons r3 r4 => cases r4; exact ⟨_, _, rfl, r1, r3⟩
theorem call_abs : CallR X (.builtin "abs") (fun xs H Q => ∃ i, xs = [.int i] ∧ Q (.int (if i < 0 then -i else i)) H) := by
  intro pins s σ H xs us Q I r h
  obtain ⟨i, rfl, q⟩ := h
  obtain ⟨u, rfl, t, rfl⟩ := vals1 r
  exact call_abs_int fun u tk => ⟨.int (if i < 0 then -i else i), H, I.tok _, ⟨_, rfl⟩, q⟩
end
end L2

namespace L2
open PySem PySem.Spec PyProof.Rows

section
variable {prog : Program} {w : World} {A : Around} {E : Value → Shared → Prop} {s : Shared} {K : PySem.W.Frag} {x dx C f : Addr} {mA : Str → Option Value} {name : Str} {v : Value}

end

section
variable {P : Program} {w : World} {H H' : Hp} {h h' : Heap} {a C dx : Addr} {fs fs' : List (Str × V)}
end

section
variable {X : Cx} {pins : List (Addr × Obj)} {σ : St} {H : Hp} {s : Shared} {a C dx : Addr} {fs : List (Str × V)} {f : Str} {v : V} {A : Around} {E : Value → Shared → Prop}

end

/-! ### readings and rules -/
section
variable {X : Cx} {o e value : Expr} {f : Str} {pos pos' tpos : Pos} {ta tv : TE}
end

/-! ### isinstance -/
section
variable {X : Cx} {pins : List (Addr × Obj)} {σ : St} {H : Hp} {s : Shared} {A : Around} {E : Value → Shared → Prop} {Q : Value → Shared → Prop} {c : Value} {b : Bool}
end
end L2

namespace L2
open PySem PySem.Spec PyProof.Rows

/-! ### room -/
structure Room (k : Nat) (A : Around) : Prop where
  hd : A.handled = none
  dp : A.depth + 3 * k + 5 < recursionLimit
  un : A.units + 16 * k + 200 < cLine
theorem Room.mono {j k : Nat} {A : Around} (r : Room k A) (h : j ≤ k) : Room j A := ⟨r.hd, by have := r.dp; omega, by have := r.un; omega⟩
theorem Room.deeper {k : Nat} {A : Around} (r : Room (k + 1) A) (env : Env) : Room k (A.deeper env) :=
  ⟨r.hd, by have := r.dp; show A.depth + 1 + 3 * k + 5 < _; omega, by have := r.un; show A.units + 3 + 16 * k + 200 < _; omega⟩
theorem Room.depth {k : Nat} {A : Around} (r : Room k A) : A.depth < recursionLimit := by have := r.dp; omega
theorem Room.units {k : Nat} {A : Around} (r : Room k A) : A.units + 64 < cLine := by have := r.un; omega
/-! ### argument lists and displays -/
def tNil : TA := fun _ H Q => Q [] H
def tCons (ta : TE) (tr : TA) : TA := fun σ H Q => ta σ H fun x H1 => tr σ H1 fun xs H2 => Q (x :: xs) H2
section
variable {X : Cx} {e : Expr} {es : List Expr} {te : TE} {t : TA} {pos : Pos}
theorem pa_nil : PA X [] tNil := fun _ _ _ _ H Q I h => Calls.spliced_nil ⟨[], H, I, .nil, h⟩
theorem pa_cons (ha : PE X e te) (hr : PA X es t) (hs : starEach (e :: es) X.env = (false, eval e X.env) :: starEach es X.env := by rfl) : PA X (e :: es) (tCons te t) := by
  intro pos pins s σ H Q I h
  rw [hs]
  show wpAny _ _ (spliced ((false, eval e X.env) :: backTo pos (starEach es X.env))) _ _ s
  refine Calls.spliced_cons (thn (ha pins s σ H _ I h) fun u s1 ⟨x, H1, I1, r1, q1⟩ => ?_)
  exact thn (hr pos pins s1 σ H1 _ I1 q1) fun us s2 ⟨xs, H2, I2, r2, q2⟩ => ⟨x :: xs, H2, I2, .cons r1 r2, q2⟩

/-- a tuple, a list of written items -/
def tTup (t : TA) : TE := fun σ H Q => t σ H fun xs H1 => xs.length ≤ sizeLine ∧ ∀ p, H1 p = none → Q (.ref p) (upd H1 p (.tup xs))
def tLst (t : TA) : TE := fun σ H Q => t σ H fun xs H1 => xs.length ≤ sizeLine ∧ ∀ p, H1 p = none → Q (.ref p) (upd H1 p (.lst xs))
theorem pe_tup {x1} (h : PA X es t) : PE X (.Tuple es x1 pos) (tTup t) := by
  intro pins s σ H Q I hq
  refine wpAny_Tuple_spliced (thn (h pos pins s σ H _ I hq) fun us s1 ⟨xs, H1, I1, r, z, q⟩ => ⟨by rw [← r.length]; exact z, ?_⟩)
  have hf : H1 s1.heap.objs.size = none := I1.hok.fresh (Nat.le_refl _)
  refine ⟨.ref s1.heap.objs.size, upd H1 s1.heap.objs.size (.tup xs), I1.laid (t' := s1.toks) (fun b u e => Heap.get?_push_of_some _ e) (Nat.le_refl _) ?_, rfl, q _ hf⟩
  exact ⟨z, us, r, ⟨_, Heap.get?_push_size _ rfl, rfl, _, rfl⟩⟩
theorem pe_lst (h : PA X es t) : PE X (.List es pos) (tLst t) := by
  intro pins s σ H Q I hq
  refine wpAny_List_spliced (thn (h pos pins s σ H _ I hq) fun us s1 ⟨xs, H1, I1, r, z, q⟩ => ⟨by rw [← r.length]; exact z, ?_⟩)
  have hf : H1 s1.heap.objs.size = none := I1.hok.fresh (Nat.le_refl _)
  refine ⟨.ref s1.heap.objs.size, upd H1 s1.heap.objs.size (.lst xs), I1.laid (t' := s1.toks) (fun b u e => Heap.get?_push_of_some _ e) (Nat.le_refl _) ?_, rfl, q _ hf⟩
  exact ⟨z, us, 0, r, Heap.get?_push_size _ rfl⟩
end

/-! ### what a def promises -/
/-- a def's promise: the bound arguments in the parameters' order, the heap, the wanted end, the wanted exception -/
abbrev Sp := List V → Hp → VK → XK → Prop
/-- how an exception lies behind a call (file 08 gives it): the callers' frames, abstract heap and state ahead of the call, the wish, the exception, the state -/
abbrev CXT := List Env → Hp → Shared → XK → Value → Shared → Prop

/-- the state at a call -/
structure Env0 (P : Program) (w : World) (K : PySem.W.Frag) (mg : Str → Option Value) (base : Heap) (A : Around) (outer : List Env) (s : Shared) (H : Hp) : Prop where
  frames : A.frames = some outer
  mod : Mod K mg base
  bs : ∀ b o, base.get? b = some o → s.heap.get? b = some o ∧ H b = none
  bsz : base.objs.size ≤ s.heap.objs.size
  funs : s.heap.FunFrames base outer
  frf : ∀ b ∈ frs outer, H b = none
  hok : HOk P w H s.heap
  bare : AllBare s.gens
/-- a call's end -/
def CE (outer : List Env) (P : Program) (w : World) (H : Hp) (s : Shared) (Q : VK) (u : Value) (s' : Shared) : Prop :=
  ∃ v H', s'.os = s.os ∧ AllBare s'.gens ∧ Un (frs outer) [] H H' s.heap s'.heap ∧ HOk P w H' s'.heap ∧ RelV v u ∧ Q v H'
def CR (CX : CXT) (outer : List Env) (P : Program) (w : World) (H : Hp) (s : Shared) (Q : VK) (E : XK) (r : Result) (s' : Shared) : Prop :=
  match r with
  | .ok (.ret u) => CE outer P w H s Q u s'
  | .ok _ => False
  | .error e => CX outer H s E e s'
structure FnOk (P : Program) (w : World) (K : PySem.W.Frag) (mg : Str → Option Value) (base : Heap) (CX : CXT) (k : Nat) (f : Addr) (fd : FuncData) (ps : List Str) (sp : Sp) : Prop where
  len : ∀ vs H Q E, sp vs H Q E → vs.length = ps.length
  run : ∀ (A : Around) (outer : List Env) (s : Shared) (H : Hp) (args : Args) (us : List Value) (vs : List V) (Q : VK) (E : XK), Room k A → Env0 P w K mg base A outer s H → BindsTo s fd args (ps.zip us) → Vals vs us → sp vs H Q E →
    codeAny (model P w) A (.call (.ref f) args) (CR CX outer P w H s Q E) s
/-- a weaker promise -/
theorem FnOk.imp {P : Program} {w : World} {K : PySem.W.Frag} {mg : Str → Option Value} {base : Heap} {CX : CXT} {k : Nat} {f : Addr} {fd : FuncData} {ps : List Str} {sp sp' : Sp} (F : FnOk P w K mg base CX k f fd ps sp)
    (h : ∀ vs H Q E, sp' vs H Q E → sp vs H Q E) : FnOk P w K mg base CX k f fd ps sp' :=
  ⟨fun vs H Q E q => F.len vs H Q E (h _ _ _ _ q), fun A outer s H args us vs Q E hr he hb hv hs => F.run A outer s H args us vs Q E hr he hb hv (h _ _ _ _ hs)⟩

section
variable {X : Cx} {pins : List (Addr × Obj)} {σ : St} {H : Hp} {s s' : Shared}
/-- from a body: what a callee wants -/
theorem Inv.env0 (I : Inv X pins σ H s) : Env0 X.prog X.w X.K X.mg X.base X.A X.stack s H :=
  ⟨I.ok.frames, I.ok.mod, I.bs, Nat.le_trans I.ok.bsz I.sz, I.stack, I.stkFree, I.hok, I.bare⟩
/-- behind a call -/
theorem Inv.after {Q : VK} {u : Value} (I : Inv X pins σ H s) (h : CE X.stack X.prog X.w H s Q u s') : EP X pins σ Q u s' := by
  obtain ⟨v, H', os, bare, un, hok, r, q⟩ := h
  obtain ⟨hh, g, d, t, os'⟩ := s'
  obtain rfl : os' = s.os := os
  exact ⟨v, H', I.call (h' := hh) (g' := g) (d' := d) (t' := t) (ch := []) un hok bare (fun b z => absurd z (by simp)), r, q⟩
end

/-! ### calls -/
/-- f(..): the written arguments, then the defaults dvs; E: what is wanted of an exception -/
def tCall (sp : Sp) (dvs : List V) (E : XK) (t : TA) : TE := fun σ H Q => t σ H fun vs H1 => sp (vs ++ dvs) H1 Q E
/-- how the parameters are bound: us the positional arguments, kw the keywords' values by name, ds the defaults that fill up -/
def Binds (K : PySem.W.Frag) (fd : FuncData) (ps : List Str) (ds : List Value) : Prop :=
  ∀ (s : Shared) (us : List Value), K.In s.heap → (us ++ ds).length = ps.length → BindsTo s fd ⟨us, []⟩ (ps.zip (us ++ ds))
/-- every parameter is given -/
theorem Binds.all {K : PySem.W.Frag} {fd : FuncData} {ps : List Str} (h : ∀ us : List Value, us.length = ps.length → bindArgs fd ⟨us, []⟩ = pure (ps.zip us)) : Binds K fd ps [] := fun s us _ hl => by
  rw [List.append_nil] at hl ⊢
  exact .of_eq (h us hl)

/-- an exception of a callee reaches what this body wants of exceptions -/
def Passes (CX : CXT) (X : Cx) (E : XK) : Prop := ∀ (pins : List (Addr × Obj)) (σ : St) (H : Hp) (s : Shared) (e : Value) (s' : Shared), Inv X pins σ H s → CX X.stack H s E e s' → X.xe e s'

section
variable {X : Cx} {CX : CXT} {k : Nat} {f C : Addr} {fd : FuncData} {ps : List Str} {sp : Sp} {dvs : List V} {ds : List Value} {E : XK} {x m : Str} {p pos apos : Pos} {e o : Expr} {es : List Expr} {ta : TE} {t : TA}

/-- the callee runs -/
theorem run_fn {pins : List (Addr × Obj)} {σ : St} {H : Hp} {s : Shared} {Q : VK} {us : List Value} {vs : List V} (F : FnOk X.prog X.w X.K X.mg X.base CX k f fd ps sp) (hr : Room k X.A) (hb : Binds X.K fd ps ds) (hd : Vals dvs ds) (hx : Passes CX X E)
    (I : Inv X pins σ H s) (r : Vals vs us) (h : sp (vs ++ dvs) H Q E) : wpAny (model X.prog X.w) X.A (call (.ref f) us) (EP X pins σ Q) X.xe s := by
  have r2 : Vals (vs ++ dvs) (us ++ ds) := r.append hd
  have hl : (us ++ ds).length = ps.length := by rw [← r2.length]; exact F.len _ _ _ _ h
  refine wpAny_call (codeAny_mono (F.run X.A X.stack s H ⟨us, []⟩ (us ++ ds) (vs ++ dvs) Q E hr I.env0 (hb s us I.kIn hl) r2 h) fun r s' hq => ?_)
  cases r with
  | error e => exact hx pins σ H s e s' I hq
  | ok fl =>
    cases fl with
    | ret u => exact I.after hq
    | next => exact False.elim hq
    | brk => exact False.elim hq
    | cont => exact False.elim hq

theorem pe_call (F : FnOk X.prog X.w X.K X.mg X.base CX k f fd ps sp) (hr : Room k X.A) (hg : Gl X x) (hm : X.mg x = some (.ref f)) (hk : PySem.W.keepIn X.K (.ref f) = true) (hb : Binds X.K fd ps ds) (hd : Vals dvs ds) (hx : Passes CX X E)
    (ha : PA X (e :: es) t) (hdb : (x == ("__debug__" : Str)) = false := by decide) (he : starEach (e :: es) X.env = (false, eval e X.env) :: starEach es X.env := by rfl) (hpl : (backTo pos (starEach es X.env)).any (·.1) = false := by rfl) :
    PE X (.Call (.Name x p) (e :: es) [] pos) (tCall sp dvs E t) := by
  intro pins s σ H Q I h
  refine wpAny_Call_Name_kw (ld_glob I hg hm ?_ hdb)
  refine PySem.W.callWith_K (h₀ := X.base) I.ok.mod.kin hk (thn (ha pos pins s σ H _ I h) fun us s1 ⟨vs, H1, I1, r, q⟩ => ⟨I1.kIn, ?_⟩) he hpl
  exact run_fn F hr hb hd hx I1 r q
end

/-! ### keywords -/
section
variable {X : Cx} {CX : CXT} {k : Nat} {f C : Addr} {fd : FuncData} {ps ks : List Str} {sp : Sp} {E : XK} {x m : Str} {p pos apos kpos : Pos} {e o : Expr} {es : List Expr} {kws : List Keyword} {te ta : TE} {t tk : TA} {nm : Option Str}
variable {g : List Value → List Value → List Value} {gV : List V → List V → List V}
end

/-! ### a def's body keeps its promise -/
/-- names: the parameters first -/
structure FnScope (N P : List Str) (sc : Scope) : Prop where
  kind : sc.kind = .function
  co : sc.isCoroutine = false
  gen : sc.isGenerator = false
  nd : N.Nodup
  pre : N.take P.length = P
  par : ∀ x ∈ P, sc.names.lookup x = some .local ∨ sc.names.lookup x = some .cell
  nofree : ∀ y ∈ sc.names, y.2 ≠ .free

theorem bindL_out {kindOf : Str → Option NameKind} {x : Str} : ∀ {binds : List (Str × Value)} {m : Str → Option Value}, (∀ v, (x, v) ∉ binds) → bindL kindOf binds m x = m x
  | [], _, _ => rfl
  | (n, v) :: r, m, h => by
    unfold bindL
    rw [bindL_out fun w hw => h w (List.mem_cons_of_mem _ hw)]
    split
    · have : x ≠ n := by rintro rfl; exact h v List.mem_cons_self
      simp [this]
    · rfl
theorem bindC_out {kindOf : Str → Option NameKind} {x : Str} : ∀ {binds : List (Str × Value)} {m : Str → Option Value}, (∀ v, (x, v) ∉ binds) → bindC kindOf binds m x = m x
  | [], _, _ => rfl
  | (n, v) :: r, m, h => by
    unfold bindC
    rw [bindC_out fun w hw => h w (List.mem_cons_of_mem _ hw)]
    split
    · rfl
    · have : x ≠ n := by rintro rfl; exact h v List.mem_cons_self
      simp [this]
theorem bindL_get {kindOf : Str → Option NameKind} {x : Str} {v : Value} : ∀ {P : List Str} {vs : List Value} {i : Nat} {m : Str → Option Value}, P.Nodup → P[i]? = some x → vs[i]? = some v → kindOf x = some .local →
    bindL kindOf (P.zip vs) m x = some v
  | [], _, _, _, _, h, _, _ => by simp at h
  | _ :: _, [], _, _, _, _, h, _ => by simp at h
  | p :: P, w :: vs, 0, m, nd, h1, h2, hk => by
    simp at h1 h2; subst h1; subst h2
    show bindL kindOf ((p, w) :: P.zip vs) m p = _
    unfold bindL
    rw [bindL_out fun v hv => (List.nodup_cons.mp nd).1 (List.of_mem_zip hv).1, if_pos hk]
    simp
  | p :: P, w :: vs, i + 1, m, nd, h1, h2, hk => by
    show bindL kindOf ((p, w) :: P.zip vs) m x = _
    unfold bindL
    exact bindL_get (i := i) (List.nodup_cons.mp nd).2 (by simpa using h1) (by simpa using h2) hk
theorem bindC_get {kindOf : Str → Option NameKind} {x : Str} {v : Value} : ∀ {P : List Str} {vs : List Value} {i : Nat} {m : Str → Option Value}, P.Nodup → P[i]? = some x → vs[i]? = some v → kindOf x ≠ some .local →
    bindC kindOf (P.zip vs) m x = some v
  | [], _, _, _, _, h, _, _ => by simp at h
  | _ :: _, [], _, _, _, _, h, _ => by simp at h
  | p :: P, w :: vs, 0, m, nd, h1, h2, hk => by
    simp at h1 h2; subst h1; subst h2
    show bindC kindOf ((p, w) :: P.zip vs) m p = _
    unfold bindC
    rw [bindC_out fun v hv => (List.nodup_cons.mp nd).1 (List.of_mem_zip hv).1, if_neg hk]
    simp
  | p :: P, w :: vs, i + 1, m, nd, h1, h2, hk => by
    show bindC kindOf ((p, w) :: P.zip vs) m x = _
    unfold bindC
    exact bindC_get (i := i) (List.nodup_cons.mp nd).2 (by simpa using h1) (by simpa using h2) hk

/-- the names' values at the entry -/
def start (N : List Str) (vs : List V) : St := vs.map some ++ List.replicate (N.length - vs.length) none

/-- the context of a def's body, at its entry; an exception leaves the frame, then lies as CX says -/
def cxOf (CX : CXT) (P : Program) (w : World) (K : PySem.W.Frag) (mg : Str → Option Value) (base : Heap) (N : List Str) (qual : Str) (scope : Scope) (f : Addr) (cd : Value) (A : Around) (outer : List Env) (s : Shared) (H : Hp) (E : XK) : Cx where
  prog := P
  w := w
  K := K
  mg := mg
  base := base
  A := A.deeper (envOfC qual scope s.heap.objs.size f cd)
  N := N
  s₀ := s
  H₀ := H
  env := envOfC qual scope s.heap.objs.size f cd
  outer := outer
  stack := envOfC qual scope s.heap.objs.size f cd :: outer
  ex := []
  calm := true
  fn := fun _ => true
  pn := []
  xe := fun e s' => wpAny (model P w) (A.deeper (envOfC qual scope s.heap.objs.size f cd)) (leaving (envOfC qual scope s.heap.objs.size f cd) e) (fun _ s'' => CX outer H s E e s'') (fun e' s'' => CX outer H s E e' s'') s'

theorem cell_has {sc : Scope} {n : Nat} {x : Str} (h : sc.names.lookup x = some .cell) : ∃ c, (cellsFrom n sc.names []).lookup x = some c := by
  have q := PySem.W.cellsFrom_some sc.names n [] (.inl h)
  exact Option.isSome_iff_exists.mp q

theorem inv_start {CX : CXT} {P : Program} {w : World} {K : PySem.W.Frag} {mg : Str → Option Value} {base : Heap} {N ps : List Str} {qual : Str} {scope : Scope} {f : Addr} {cd : Value} {A : Around} {outer : List Env} {s s1 : Shared} {H : Hp} {E : XK} {us : List Value} {vs : List V}
    (S : FnScope N ps scope) (hd : A.handled = none) (e0 : Env0 P w K mg base A outer s H) (hl : vs.length = ps.length) (r : Vals vs us)
    (x : InCallC s s.heap.objs.size (bindL (envOfC qual scope s.heap.objs.size f cd).kindOf (ps.zip us) fun _ => none) (cellsFrom (s.heap.objs.size + 1) scope.names []) (bindC (envOfC qual scope s.heap.objs.size f cd).kindOf (ps.zip us) fun _ => none) s1) :
    Inv (cxOf CX P w K mg base N qual scope f cd A outer s H E) [] (start N vs) H s1 := by
  have hpl : ps.length ≤ N.length := by have := congrArg List.length S.pre; rw [List.length_take] at this; omega
  obtain ⟨h1, tk, rfl, hk⟩ := x.done
  have noA : ∀ b : Addr, b ∉ (cxOf CX P w K mg base N qual scope f cd A outer s H E).ex := fun b z => absurd (show b ∈ ([] : List Addr) from z) (by simp)
  refine ⟨⟨e0.mod, S.kind, rfl, rfl, Nat.le_refl _, fun y z c h1 h2 => ?_, fun y hy => ?_, fun y c _ h => ?_, fun _ => hd, Around.frames_deeper e0.frames, .inr ⟨rfl, rfl⟩, fun b z => absurd z (noA b), e0.bs, e0.bsz, fun b _ _ => noA b, fun b z => absurd z (noA b), e0.funs, e0.frf⟩,
    rfl, e0.bare, Un.kept hk, ⟨_, x.toInCall.ns, fun i y v h1 h2 h3 => ?_⟩, fun y c h => ⟨_, x.cell y c h⟩, e0.hok.fresh (Nat.le_refl _), fun y c h => ?_, fun p hp => absurd (show p ∈ ([] : List (Addr × Obj)) from hp) (by simp), e0.hok.kept hk, ?_⟩
  · exact name_of_addr x.apart (PySem.mem_of_lookup h1) (PySem.mem_of_lookup h2)
  · have hy : scope.names.lookup y = some .cell ∨ scope.names.lookup y = some .free := hy
    rcases hy with hy | hy
    · exact cell_has hy
    · exact absurd rfl (S.nofree _ (PySem.mem_of_lookup hy))
  · exact Nat.le_of_lt (x.above y c (PySem.mem_of_lookup h))
  · have hi : i < vs.length := by
      unfold start at h2
      by_cases hi : i < vs.length
      · exact hi
      · rw [List.getElem?_append_right (by simpa using hi)] at h2
        rw [List.getElem?_replicate] at h2
        split at h2 <;> cases h2
    have ha : vs[i]? = some v := by
      unfold start at h2
      rw [List.getElem?_append_left (by simpa using hi), List.getElem?_map] at h2
      cases e : vs[i]? with
      | none => rw [e] at h2; cases h2
      | some a => rw [e] at h2; cases h2; rfl
    obtain ⟨u, hu, rv⟩ := r.get ha
    have hp : ps[i]? = some y := by
      rw [← S.pre, List.getElem?_take_of_lt (by omega)]; exact h1
    have ndP : ps.Nodup := by rw [← S.pre]; exact S.nd.sublist (List.take_sublist _ _)
    refine ⟨u, rv, ?_⟩
    rcases S.par y (List.mem_of_getElem? hp) with k | k
    · exact .inl ⟨k, bindL_get ndP hp hu k⟩
    · obtain ⟨c, e⟩ := cell_has (n := s.heap.objs.size + 1) k
      refine .inr ⟨.inl k, c, e, ?_⟩
      have q := x.cell y c e
      rw [bindC_get ndP hp hu (by show scope.names.lookup y ≠ _; rw [k]; decide)] at q
      exact q
  · exact e0.hok.fresh (Nat.le_of_lt (x.above y c (PySem.mem_of_lookup h)))
  · unfold start
    show _ = N.length
    rw [List.length_append, List.length_map, List.length_replicate]
    omega

/-- THE RULE: a def (or a method) of the text, by its body. The body's reading t is chosen for each entry; it is run at the parameters' values -/
theorem fn_of {CX : CXT} {P : Program} {w : World} {K : PySem.W.Frag} {mg : Str → Option Value} {base : Heap} {k : Nat} {f : Addr} {name qual : Str} {params : Arguments} {body : List Stmt} {scope : Scope} {dV kV doc pm cdv ct oc : Value} {an od : Option Addr}
    {osl : Array (Option Value)} {N ps : List Str} {sp : Sp} (lk : K.lookup f = some ⟨oc, od, .func (PySem.W.fnOf name qual params body scope dV kV doc pm an cdv ct), osl⟩) (hcd : PySem.W.codeIn K cdv qual = true) (S : FnScope N ps scope)
    (len : ∀ vs H Q E, sp vs H Q E → vs.length = ps.length)
    (hbody : ∀ (A : Around) (outer : List Env) (s : Shared) (H : Hp) (vs : List V) (Q : VK) (E : XK), Room k (A.deeper (envOfC qual scope s.heap.objs.size f cdv)) → sp vs H Q E →
      ∃ t, PSs (cxOf CX P w K mg base N qual scope f cdv A outer s H E) body t ∧ t { nx := fun _ H' => Q .non H', rt := Q } (start N vs) H) :
    FnOk P w K mg base CX (k + 1) f (PySem.W.fnOf name qual params body scope dV kV doc pm an cdv ct) ps sp := by
  refine ⟨len, fun A outer s H args us vs Q E hr e0 hb r hsp => ?_⟩
  have hl := len _ _ _ _ hsp
  have KX : K.In s.heap := e0.mod.kin.keeps fun b o e => (e0.bs b o e).1
  have lim : s.heap.NoLimit := e0.mod.nolimit.keeps fun b o e => (e0.bs b o e).1
  have hkind : ∀ y ∈ ps.zip us, scope.names.lookup y.1 = some .local ∨ (scope.names.lookup y.1 = some .cell ∧ ((cellsFrom (s.heap.objs.size + 1) scope.names []).lookup y.1).isSome = true) := fun ⟨n, v⟩ hy => by
    rcases S.par n (List.of_mem_zip hy).1 with q | q
    · exact .inl q
    · exact .inr ⟨q, PySem.W.cellsFrom_some _ _ _ (.inl q)⟩
  refine codeAny_call_function hr.depth (KX _ _ lk) rfl S.co S.gen rfl (PySem.W.codeRec_of KX hcd) (hb _ _ _ _ ?_)
  refine wpAny_newFunctionEnv_cells S.kind hkind fun env he s1 x => ?_
  subst he
  refine ⟨lim.keeps x.toInCall.keep, codeAny_func ?_⟩
  obtain ⟨t, ht, hq⟩ := hbody A outer s H vs Q E (hr.deeper _) hsp
  have I : Inv (cxOf CX P w K mg base N qual scope f cdv A outer s H E) [] (start N vs) H s1 := inv_start S hr.hd e0 hl r x
  refine wpAny_mono (ht [] s1 (start N vs) H _ I hq) (fun fl s' hs => ?_) fun e s' hs => hs
  have fin : ∀ {σ' : St} {H' : Hp} {v : V} {u : Value}, Inv (cxOf CX P w K mg base N qual scope f cdv A outer s H E) [] σ' H' s' → RelV v u → Q v H' → CE outer P w H s Q u s' :=
    fun {σ' H' v u} J rv q => ⟨v, H', J.os, J.bare, J.base, J.hok, rv, q⟩
  cases fl with
  | ret u =>
    obtain ⟨v, σ', H', J, rv, q⟩ := hs
    exact fin J rv q
  | next =>
    obtain ⟨σ', H', J, q⟩ := hs
    exact fin (v := V.non) (u := Value.none) J rfl q
  | brk =>
    obtain ⟨_, _, _, q⟩ := hs
    exact False.elim q
  | cont =>
    obtain ⟨_, _, _, q⟩ := hs
    exact False.elim q
end L2

namespace L2
open PySem PySem.Spec PyProof.Rows
section
variable {X : Cx} {x : Str} {p pos : Pos} {e : Expr} {es : List Expr} {t : TA} {id T : String} {r : List V → Hp → VK → Prop}

def tCB (r : List V → Hp → VK → Prop) (t : TA) : TE := fun σ H Q => t σ H fun vs H1 => r vs H1 Q
/-- f(e, ..), f a built-in function -/
theorem pe_callB (hc : CallR X (.builtin id) r) (hg : Gl X x) (hm : X.mg x = none) (hv : bootBuiltins x = some (.builtin id)) (ha : PA X (e :: es) t) (hn : x ≠ "__name__" := by decide) (hdb : (x == ("__debug__" : Str)) = false := by decide)
    (he : starEach (e :: es) X.env = (false, eval e X.env) :: starEach es X.env := by rfl) (hpl : (backTo pos (starEach es X.env)).any (·.1) = false := by rfl) : PE X (.Call (.Name x p) (e :: es) [] pos) (tCB r t) := by
  intro pins s σ H Q I h
  refine wpAny_Call_Name_kw (ld_blt I hg hm hv ?_ hn hdb)
  exact PyProof.Rows.callWith_builtin1 (thn (ha pos pins s σ H _ I h) fun us s1 ⟨vs, H1, I1, r1, q1⟩ => hc pins s1 σ H1 vs us Q I1 r1 q1) he hpl
end
end L2

namespace HT
open PySem PyProof.Rows

section
open PySem.SeqAt
open PySem.AutoSeq1 (wpAny_loadPart')
open PySem.MeetsSeq PySem.MeetsSeq2 PySem.MeetsSeq3

end

section
variable {prog : Program} {w : World} {A : Around} {E : Value → Shared → Prop} {s : Shared}

/-! ### t[a:b], not the whole -/
/-- a slice's bound as a place among n (d where it is left out) -/
def sIx (n d : Nat) : Option Int → Nat
  | none => d
  | some v => if v < 0 then (v + (n : Int)).toNat else min v.toNat n
end
end HT

namespace L2
open PySem PySem.Spec PyProof.Rows

/-! ### the parts of a slice -/
abbrev TO := St → Hp → (Option Int → Hp → Prop) → Prop
/-- a slice's part (left out, or an int) -/
def PO (X : Cx) (e : Option Expr) (t : TO) : Prop :=
  ∀ (pins : List (Addr × Obj)) (s : Shared) (σ : St) (H : Hp) (Q : Option Int → Hp → Prop), Inv X pins σ H s → t σ H Q →
    wpAny (model X.prog X.w) X.A (evalPart e X.env) (fun u s' => ∃ o H', Inv X pins σ H' s' ∧ IsPart u o ∧ Q o H') X.xe s
def tNoPart : TO := fun _ H Q => Q none H
def tPart (t : TE) : TO := fun σ H Q => t σ H fun x H1 => ∃ i, x = .int i ∧ Q (some i) H1

theorem intsAre_of {ns : List Int} : ∀ {us : List Value}, Vals (ns.map V.int) us → IntsAre us ns := by
  induction ns with
  | nil => intro us r; rw [List.map_nil] at r; cases r; exact .nil
  | cons n ns ih =>
    intro us r
    rw [List.map_cons] at r
    cases r with
    | cons r1 r2 =>
      obtain ⟨t, e⟩ := r1
      subst e
      exact .cons n t (ih r2)

section
variable {X : Cx} {e : Expr} {te : TE} {lo hi : Option Expr} {tl th : TO} {pos p2 : Pos}

theorem po_none : PO X none tNoPart := by
  intro pins s σ H Q I h
  rw [evalPart_none]
  exact wpAny_pure ⟨none, H, I, .none, h⟩
theorem po_some (h : PE X e te) : PO X (some e) (tPart te) := by
  intro pins s σ H Q I hw
  rw [evalPart_some]
  refine thn (h pins s σ H _ I hw) fun u s1 ⟨x, H1, I1, r1, q1⟩ => ?_
  obtain ⟨i, rfl, q⟩ := q1
  obtain ⟨t, rfl⟩ := r1
  exact ⟨some i, H1, I1, .int i t, q⟩

/-- what a slice of a value is, by values: the slice object stands at sl -/
def SlR (X : Cx) (r : V → Option Int → Option Int → Hp → VK → Prop) : Prop :=
  ∀ (pins : List (Addr × Obj)) (s : Shared) (σ : St) (H : Hp) (x : V) (v vl vu : Value) (lo hi : Option Int) (sl : Addr) (Q : VK), Inv X pins σ H s → RelV x v → s.heap.IsSliceOf sl vl vu .none → IsPart vl lo → IsPart vu hi → r x lo hi H Q →
    ∃ T id, typeLookup (.type T) "__getitem__" = pure (some (.builtin id)) ∧ s.TypeIs v T ∧ wpAny (model X.prog X.w) X.A (getItem v (.ref sl)) (EP X pins σ Q) X.xe s
def tSl (r : V → Option Int → Option Int → Hp → VK → Prop) (te : TE) (tl th : TO) : TE := fun σ H Q => te σ H fun x H1 => tl σ H1 fun l H2 => th σ H2 fun u H3 => r x l u H3 Q
/-- a[lo:hi], any a -/
theorem pe_slice {r : V → Option Int → Option Int → Hp → VK → Prop} (hr : SlR X r) (he : PE X e te) (hl : PO X lo tl) (hu : PO X hi th) : PE X (.Subscript e (.Slice lo hi none p2) pos) (tSl r te tl th) := by
  intro pins s σ H Q I h
  refine Subscript_ (thn (he pins s σ H _ I h) fun v s1 ⟨x, H1, I1, r1, q1⟩ => ?_)
  refine wpAny_Slice (thn (hl pins s1 σ H1 _ I1 q1) fun vl s2 ⟨l, H2, I2, pl, q2⟩ => thn (hu pins s2 σ H2 _ I2 q2) fun vu s3 ⟨u, H3, I3, pu, q3⟩ => ?_)
  rw [evalPart_none]
  refine wpAny_pure ?_
  have I4 : Inv X pins σ H3 { s3 with heap := s3.heap.push { cls := .type "slice", data := .fields #[vl, vu, .none] } } := I3.kept (t' := s3.toks) fun b ob q => Heap.get?_push_of_some _ q
  obtain ⟨T, id, hT, ht, hg⟩ := hr pins { s3 with heap := s3.heap.push { cls := .type "slice", data := .fields #[vl, vu, .none] } } σ H3 x v vl vu l u s3.heap.objs.size Q I4 r1 (Heap.IsSliceOf.new ..) pl pu q3
  show wpAny (model X.prog X.w) X.A (subscriptTail e (.Slice lo hi none p2) v (.ref s3.heap.objs.size)) (EP X pins σ Q) X.xe { s3 with heap := s3.heap.push { cls := .type "slice", data := .fields #[vl, vu, .none] } }
  exact tail_any (ops := [.ref s3.heap.objs.size, v]) ht hT hg (by with_unfolding_all rfl)

/-- the items of xs[lo:hi] -/
def cutV (xs : List V) (lo hi : Option Int) : List V := (xs.drop (HT.sIx xs.length 0 lo)).take (HT.sIx xs.length xs.length hi - HT.sIx xs.length 0 lo)
theorem cutV_length (xs : List V) (lo hi : Option Int) : (cutV xs lo hi).length ≤ xs.length := by
  unfold cutV
  rw [List.length_take, List.length_drop]
  omega
end
end L2

namespace L2
open PySem PySem.Spec PyProof.Rows

/-! ### places -/
/-- the place that an index of any sign means -/
def ixN (n : Nat) (i : Int) : Option Nat := if 0 ≤ i then (if i < n then some i.toNat else none) else if -(n : Int) ≤ i then some (i + n).toNat else none
def atI {α : Type} (xs : List α) (i : Int) : Option α := (ixN xs.length i).bind fun j => xs[j]?
theorem ixN_seq {n : Nat} {i : Int} {j : Nat} (h : ixN n i = some j) : seqIndex? i n = some j ∧ j < n ∧ -(n : Int) ≤ i ∧ i < n := by
  unfold ixN at h
  by_cases h0 : 0 ≤ i
  · rw [if_pos h0] at h
    by_cases h1 : i < n
    · rw [if_pos h1] at h
      have e : i.toNat = j := Option.some.inj h
      exact ⟨by rw [seqIndex_of h0 h1, e], by omega, by omega, h1⟩
    · rw [if_neg h1] at h; cases h
  · rw [if_neg h0] at h
    by_cases h1 : -(n : Int) ≤ i
    · rw [if_pos h1] at h
      have e : (i + n).toNat = j := Option.some.inj h
      exact ⟨by rw [seqIndex_neg (by omega) h1, e], by omega, h1, by omega⟩
    · rw [if_neg h1] at h; cases h
theorem atI_get {α : Type} {xs : List α} {i : Int} {v : α} (h : atI xs i = some v) : ∃ j, seqIndex? i xs.length = some j ∧ xs[j]? = some v ∧ j < xs.length ∧ -(xs.length : Int) ≤ i ∧ i < xs.length := by
  unfold atI at h
  cases e : ixN xs.length i with
  | none => rw [e] at h; cases h
  | some j =>
    rw [e] at h
    obtain ⟨h1, h2, h3, h4⟩ := ixN_seq e
    exact ⟨j, h1, h, h2, h3, h4⟩
theorem atI_last {α : Type} (xs : List α) (v : α) : atI (xs ++ [v]) (-1) = some v := by
  have hl : (xs ++ [v]).length = xs.length + 1 := by simp
  have e : ixN (xs ++ [v]).length (-1) = some xs.length := by
    unfold ixN
    rw [hl, if_neg (by decide), if_pos (by omega)]
    congr 1
    omega
  unfold atI
  rw [e]
  show (xs ++ [v])[xs.length]? = some v
  simp

/-! ### what may be subscripted -/
/-- what stands as an index of a plain subscript -/
def PlainIx (b : Expr) : Prop := ∀ o i, subscripted b false o i = operate [o, i] (getItem o i)
/-- a subscript by values -/
def IxR (X : Cx) (r : R2) : Prop :=
  ∀ (value slice : Expr) (pins : List (Addr × Obj)) (s : Shared) (σ : St) (H : Hp) (x y : V) (v u : Value) (Q : VK), Inv X pins σ H s → RelV x v → RelV y u → r x y H Q →
    subscripted slice false v u = operate [v, u] (getItem v u) → wpAny (model X.prog X.w) X.A (subscriptTail value slice v u) (EP X pins σ Q) X.xe s
/-- a call of a builtin's method by values: the receiver, the arguments -/
def MtR (X : Cx) (id : String) (r : V → List V → Hp → VK → Prop) : Prop :=
  ∀ (pins : List (Addr × Obj)) (s : Shared) (σ : St) (H : Hp) (x : V) (xs : List V) (v : Value) (us : List Value) (Q : VK), Inv X pins σ H s → RelV x v → Vals xs us → r x xs H Q →
    wpAny (model X.prog X.w) X.A (call (.builtin id) (v :: us)) (EP X pins σ Q) X.xe s
section
variable {X : Cx} {a b : Expr} {ta tb : TE} {pos : Pos}
/-- a[b] -/
theorem pe_ix {r : R2} (hr : IxR X r) (ha : PE X a ta) (hb : PE X b tb) (hs : PlainIx b) : PE X (.Subscript a b pos) (tOp r ta tb) := by
  intro pins s σ H Q I h
  exact Subscript_ (binT ha hb I h fun v u s2 x y H2 I2 rx ry q => hr a b pins s2 σ H2 x y v u Q I2 rx ry q (hs _ _))

def rIxL (K : PySem.W.Frag) : R2 := fun x y H Q => ∃ p xs i v, x = .ref p ∧ y = .int i ∧ SqL K H p xs ∧ atI xs i = some v ∧ Q v H
def rIxT (K : PySem.W.Frag) : R2 := fun x y H Q => ∃ p xs i v, x = .ref p ∧ y = .int i ∧ SqT K H p xs ∧ atI xs i = some v ∧ Q v H
theorem ix_list : IxR X (rIxL X.K) := by
  intro value slice pins s σ H x y v u Q I rx ry h hs
  obtain ⟨p, xs, i, z, rfl, rfl, hq, he, q⟩ := h
  cases rx
  obtain ⟨t, rfl⟩ := ry
  obtain ⟨its, r, pl, hz⟩ := I.list hq
  obtain ⟨j, h1, h2, h3, h4, h5⟩ := atI_get he
  obtain ⟨w, ew, rw'⟩ := r.get h2
  have hl := r.length
  have hn := line63
  have fin : EP X pins σ Q w s := ⟨z, H, I, rw', q⟩
  by_cases h0 : 0 ≤ i
  · have hj : i.toNat = j := by
      rw [seqIndex_of h0 h5] at h1
      exact Option.some.inj h1
    exact item_listR pl.isList h0 (by omega) (by rw [hj]; simpa using ew) fin hs
  · have hj : (i + (its.toArray.size : Int)).toNat = j := by
      rw [seqIndex_neg (by omega) h4] at h1
      rw [List.size_toArray, ← hl]
      exact Option.some.inj h1
    exact subscriptTail_builtinR (x := w) pl.isList.typeIs slot_list_getitem.lookup
      (wpAny_getItem_list_neg (Q := fun r s' => r = w ∧ EP X pins σ Q r s') pl.isList (by omega) (by rw [List.size_toArray] <;> omega) (by omega) (by rw [hj]; simpa using ew) ⟨rfl, fin⟩) hs
theorem ix_tup : IxR X (rIxT X.K) := by
  intro value slice pins s σ H x y v u Q I rx ry h hs
  obtain ⟨p, xs, i, z, rfl, rfl, hq, he, q⟩ := h
  cases rx
  obtain ⟨t, rfl⟩ := ry
  obtain ⟨its, r, pl, hz⟩ := I.tuple hq
  obtain ⟨j, h1, h2, h3, h4, h5⟩ := atI_get he
  obtain ⟨w, ew, rw'⟩ := r.get h2
  have hl := r.length
  have hn := line63
  have fin : EP X pins σ Q w s := ⟨z, H, I, rw', q⟩
  exact subscriptTail_builtinR (x := w) pl.typeIs slot_tuple_getitem.lookup
    (getItem_tuple (j := j) (Q := fun r s' => r = w ∧ EP X pins σ Q r s') pl (by omega) (by omega) (by rw [List.size_toArray, ← hl]; exact h1) (by simpa using ew) ⟨rfl, fin⟩) hs
/-! ### xs[i] = v, any sign -/
/-- the list's object behind a store -/
theorem mapSeq_set (its : List Value) (n j : Nat) (u : Value) : Obj.mapSeq (·.setIfInBounds j u) { cls := .type "list", data := .seq its.toArray n } = { cls := .type "list", data := .seq (its.set j u).toArray n } := by
  simp [Obj.mapSeq]
theorem Inv.lst {pins : List (Addr × Obj)} {σ : St} {H : Hp} {s : Shared} {p : Addr} {xs : List V} (I : Inv X pins σ H s) (h : H p = some (.lst xs)) :
    ∃ (its : List Value) (n : Nat), Vals xs its ∧ s.heap.get? p = some { cls := .type "list", data := .seq its.toArray n } ∧ xs.length ≤ sizeLine := by
  obtain ⟨z, its, n, r, e⟩ := I.hok p _ h
  exact ⟨its, n, r, e, z⟩
/-- the list at p is written by an update of its object -/
theorem Inv.lstUpd {pins : List (Addr × Obj)} {σ : St} {H : Hp} {s : Shared} {p : Addr} {xs ys : List V} {its its' : List Value} {n n' : Nat} {f : Obj → Obj} (I : Inv X pins σ H s) (h : H p = some (.lst xs))
    (ho : s.heap.get? p = some { cls := .type "list", data := .seq its.toArray n }) (hf : f { cls := .type "list", data := .seq its.toArray n } = { cls := .type "list", data := .seq its'.toArray n' }) (r : Vals ys its') (hz : ys.length ≤ sizeLine) (t : Nat) :
    Inv X pins σ (upd H p (.lst ys)) { s with heap := s.heap.update p f, toks := t } := by
  have e : (s.heap.update p f).get? p = some { cls := .type "list", data := .seq its'.toArray n' } := by
    rw [Heap.get?_update_self f ho (by rw [hf] <;> rfl), hf]
  refine I.write (x := p) (e := p) (by rw [h]; trivial) (.inl rfl) (fun b u hb q => (Heap.get?_update_other _ _ (Ne.symm hb)).trans q) ⟨_, e⟩ ?_
  exact ⟨hz, its', n', r, e⟩
def rSetL : V → V → V → Hp → (Hp → Prop) → Prop := fun o i v H Q => ∃ p xs k j, o = .ref p ∧ i = .int k ∧ H p = some (.lst xs) ∧ ixN xs.length k = some j ∧ Q (upd H p (.lst (xs.set j v)))
theorem set_list : PSet X rSetL := by
  intro pins s σ H o i v ov iv u Q I ro ri rv h
  obtain ⟨p, xs, k, j, rfl, rfl, hp, hj, q⟩ := h
  cases ro
  obtain ⟨t, rfl⟩ := ri
  obtain ⟨its, n, r, ho, hz⟩ := I.lst hp
  obtain ⟨h1, h2, h3, h4⟩ := ixN_seq hj
  have hl := r.length
  have hn := line63
  have I' : Inv X pins σ (upd H p (.lst (xs.set j v))) { s with heap := s.heap.update p (Obj.mapSeq (·.setIfInBounds j u)) } :=
    I.lstUpd hp ho (mapSeq_set its n j u) (r.set rv j) (by rw [List.length_set]; exact hz) s.toks
  by_cases h0 : 0 ≤ k
  · have hk : k.toNat = j := by
      rw [seqIndex_of h0 h4] at h1
      exact Option.some.inj h1
    exact PySem.W.ki_setAt ho h0 (by omega) (by rw [List.size_toArray, ← hl]; exact h4) (by rw [hk]; exact ⟨_, I', q⟩)
  · have hk : (k + (its.toArray.size : Int)).toNat = j := by
      rw [seqIndex_neg (by omega) h3] at h1
      rw [List.size_toArray, ← hl]
      exact Option.some.inj h1
    exact PySem.W.ki_setBack ho (by omega) (by rw [List.size_toArray, ← hl]; exact h3) (by omega) (by rw [hk]; exact ⟨_, I', q⟩)

/-! ### slices -/
theorem slice_bounds (lo hi : Option Int) (n : Nat) : (sliceBounds lo hi none n).1 = ((HT.sIx n 0 lo : Nat) : Int) ∧ (sliceBounds lo hi none n).2.1 = ((HT.sIx n n hi : Nat) : Int) ∧ (sliceBounds lo hi none n).2.2 = 1 := by
  refine ⟨?_, ?_, rfl⟩
  · cases lo with
    | none => simp [sliceBounds, HT.sIx]
    | some i =>
      simp only [sliceBounds, HT.sIx, Option.getD_none, show (1 : Int) > 0 by decide, if_true]
      by_cases h : i < 0
      · simp only [h, if_true] <;> omega
      · simp only [h, if_false] <;> omega
  · cases hi with
    | none => simp [sliceBounds, HT.sIx]
    | some i =>
      simp only [sliceBounds, HT.sIx, Option.getD_none, show (1 : Int) > 0 by decide, if_true]
      by_cases h : i < 0
      · simp only [h, if_true] <;> omega
      · simp only [h, if_false] <;> omega
theorem slicePick_cut (its : List Value) (lo hi : Option Int) : slicePick its.toArray lo hi none = ((its.drop (HT.sIx its.length 0 lo)).take (HT.sIx its.length its.length hi - HT.sIx its.length 0 lo)).toArray := by
  obtain ⟨h1, h2, h3⟩ := slice_bounds lo hi its.toArray.size
  unfold slicePick
  rw [h1, h2, h3]
  simp only [sliceRange_one, pick_run, List.size_toArray] <;> rfl
/-- xs[lo:hi] of a list: a new list -/
def rSlL (K : PySem.W.Frag) : V → Option Int → Option Int → Hp → VK → Prop := fun x lo hi H Q => ∃ a xs, x = .ref a ∧ SqL K H a xs ∧ ∀ p, H p = none → Q (.ref p) (upd H p (.lst (cutV xs lo hi)))
theorem sl_list : SlR X (rSlL X.K) := by
  intro pins s σ H x v vl vu lo hi sl Q I rx hs pl pu h
  obtain ⟨a, xs, rfl, hx, q⟩ := h
  cases rx
  obtain ⟨its, r, ht, hz⟩ := I.list hx
  have hlen := r.length
  refine ⟨"list", _, slot_list_getitem.lookup, ht.isList.typeIs, ?_⟩
  refine wpAny_getItem_list_slice ht.isList hs pl pu .none (by simp) ?_ (by rw [List.size_toArray] <;> omega)
  rw [slicePick_cut, ← hlen]
  refine ⟨.ref s.heap.objs.size, _, I.laid (t' := s.toks) (o := .lst (cutV xs lo hi)) (fun b ob q => Heap.get?_push_of_some _ q) (Nat.le_refl _) ?_, rfl, q _ (I.hok.fresh (Nat.le_refl _))⟩
  exact ⟨Nat.le_trans (cutV_length xs lo hi) hz, _, 0, (r.drop (HT.sIx xs.length 0 lo)).take (HT.sIx xs.length xs.length hi - HT.sIx xs.length 0 lo), Heap.get?_push_size _ rfl⟩

/-! ### len, list(x), tuple(x) of any list or tuple that is read -/
theorem call_len_seq : CallR X (.builtin "len") (fun xs H Q => ∃ p ys, xs = [.ref p] ∧ (SqL X.K H p ys ∨ SqT X.K H p ys) ∧ Q (.int ys.length) H) := by
  intro pins s σ H xs us Q I r h
  obtain ⟨p, ys, rfl, hq, q⟩ := h
  obtain ⟨u, rfl, rx⟩ := vals1 r
  cases rx
  have hn := line63
  rcases hq with hq | hq
  · obtain ⟨its, r', pl, hz⟩ := I.list hq
    have hlen := r'.length
    exact Calls.call_len_list pl.isList (by simp only [List.size_toArray] <;> omega) ⟨.int ys.length, H, I.tok _, ⟨s.toks + 1, by rw [List.size_toArray, hlen]⟩, q⟩
  · obtain ⟨its, r', pl, hz⟩ := I.tuple hq
    have hlen := r'.length
    exact len_tuple pl (by simp only [List.size_toArray] <;> omega) ⟨.int ys.length, H, I.tok _, ⟨s.toks + 1, by rw [List.size_toArray, hlen]⟩, q⟩
/-! ### the call of a builtin's method: o.m(..) -/
/-- the value is of that builtin type -/
def tyV (K : PySem.W.Frag) (T : String) (x : V) (H : Hp) : Prop := match x with
  | .str _ => T = "str"
  | .int _ => T = "int"
  | .ref p => (T = "list" ∧ ∃ xs, SqL K H p xs) ∨ (T = "tuple" ∧ ∃ o, K.lookup p = some o ∧ o.cls = .type "tuple" ∧ o.dict = none) ∨
      (T = "dict" ∧ ((∃ kvs, H p = some (.dK kvs)) ∨ ∃ kvs, H p = some (.dT kvs))) ∨ (T = "set" ∧ ∃ S n, H p = some (.set S n))
  | _ => False
theorem tyV_is {pins : List (Addr × Obj)} {σ : St} {H : Hp} {s : Shared} {T : String} {x : V} {v : Value} (I : Inv X pins σ H s) (r : RelV x v) (ty : tyV X.K T x H) :
    s.TypeIs v T ∧ ∀ a, v = .ref a → ∃ ob, s.heap.get? a = some ob ∧ ob.dict = none := by
  cases x with
  | str z =>
    obtain ⟨t, rfl⟩ := r
    cases (show T = "str" from ty)
    exact ⟨typeIs_str s z t, fun _ e => nomatch e⟩
  | int i =>
    obtain ⟨t, rfl⟩ := r
    cases (show T = "int" from ty)
    exact ⟨typeIs_int s i t, fun _ e => nomatch e⟩
  | ref p =>
    cases r
    rcases ty with ⟨rfl, xs, hq⟩ | ⟨rfl, o, hk, hc, hd⟩ | ⟨rfl, hk⟩ | ⟨rfl, S, n, hk⟩
    · obtain ⟨its, _, pl, _⟩ := I.list hq
      refine ⟨pl.isList.typeIs, fun a e => ?_⟩
      cases e
      obtain ⟨o, n, e, c, hd, _⟩ := pl
      exact ⟨o, e, hd⟩
    · refine ⟨⟨o, I.kIn p o hk, hc⟩, fun a e => ?_⟩
      cases e
      exact ⟨o, I.kIn _ o hk, hd⟩
    · have z : ∃ o, s.heap.get? p = some o ∧ o.ExactDict := by
        rcases hk with ⟨kvs, hk⟩ | ⟨kvs, hk⟩
        · obtain ⟨_, _, _, _, o, _, _, e, ex, _⟩ := I.hok p _ hk
          exact ⟨o, e, ex⟩
        · obtain ⟨_, _, _, _, o, _, _, e, ex, _⟩ := I.hok p _ hk
          exact ⟨o, e, ex⟩
      obtain ⟨o, e, ex⟩ := z
      refine ⟨⟨o, e, ex.1⟩, fun a e2 => ?_⟩
      cases e2
      exact ⟨o, e, ex.2.1⟩
    · obtain ⟨o, _, _, _, e, ex, _⟩ := I.hok p _ hk
      refine ⟨⟨o, e, ex.1⟩, fun a e2 => ?_⟩
      cases e2
      exact ⟨o, e, ex.2.1⟩
  | _ => exact False.elim ty
def tBM (K : PySem.W.Frag) (T : String) (r : V → List V → Hp → VK → Prop) (to : TE) (t : TA) : TE := fun σ H Q => to σ H fun x H1 => tyV K T x H1 ∧ t σ H1 fun xs H2 => r x xs H2 Q
variable {o e : Expr} {es : List Expr} {to : TE} {t : TA} {name : Str} {apos cpos : Pos} {T id : String} {r : V → List V → Hp → VK → Prop}
theorem pe_bm (pa : PlainAttrs T) (slot : Slot T name id) (hty : typeOf (.builtin id) = pure (.type "method_descriptor")) (hm : MtR X id r) (ho : PE X o to) (ha : PA X (e :: es) t)
    (hbase : attributeBase o name X.env (eval o X.env) = eval o X.env := by rfl)
    (hfew : ((backTo cpos (starEach (e :: es) X.env)).all (fun x => !x.1) && (backToKw cpos (keywordEach [] X.env)).all (fun x => x.1.isSome)
      && decide ((e :: es).length + ([] : List Keyword).length + (if ([] : List Keyword).isEmpty then 0 else 1) < 30)) = true := by rfl)
    (hline : (apos.endLine == cpos.line) = true := by rfl) (hs : starEach (e :: es) X.env = (false, eval e X.env) :: starEach es X.env := by rfl) (hplain : (backTo cpos (starEach es X.env)).any (·.1) = false := by rfl) :
    PE X (.Call (.Attribute o name apos) (e :: es) [] cpos) (tBM X.K T r to t) := by
  intro pins s σ H Q I h
  refine wpAny_Call_method_late hbase hfew hline rfl (thn (ho pins s σ H _ I h) fun v s1 ⟨x, H1, I1, r1, ty, q1⟩ => ?_)
  obtain ⟨h1, h2⟩ := tyV_is I1 r1 ty
  refine ⟨T, id, pa, slot, hty, h1, h2, ?_⟩
  have hA := ha cpos pins s1 σ H1 _ I1 q1
  rw [hs] at hA ⊢
  refine Calls.callWith_builtin (by show (false || (backTo cpos (starEach es X.env)).any (·.1)) = false; rw [hplain] <;> rfl) (Calls.evalArgs_plain ?_)
  exact thn hA fun us s2 ⟨vs, H2, I2, r2, q2⟩ => hm pins s2 σ H2 x vs v us Q I2 r1 r2 q2
/- xs.append(e), list.index on a module's tuple .. are MtR facts of 06m -/
end
end L2

namespace L2
open PySem PySem.Spec PyProof.Rows

def MtM (X : Cx) (id : String) (r : V → List V → Hp → VK → Prop) : Prop :=
  ∀ (pins : List (Addr × Obj)) (s : Shared) (σ : St) (H : Hp) (x : V) (xs : List V) (v : Value) (us : List Value) (Q : VK), Inv X pins σ H s → RelV x v → Vals xs us → r x xs H Q →
    wpAny (model X.prog X.w) X.A (call (.builtin id) (v :: us)) (EP X pins σ Q) X.xe s

/-! ### lists of values -/
theorem Vals.one : ∀ {x : V} {us : List Value}, Vals [x] us → ∃ u, us = [u] ∧ RelV x u
  | _, _, .cons r .nil => ⟨_, rfl, r⟩
theorem Vals.two : ∀ {x y : V} {us : List Value}, Vals [x, y] us → ∃ u v, us = [u, v] ∧ RelV x u ∧ RelV y v
  | _, _, _, .cons r (.cons q .nil) => ⟨_, _, rfl, r, q⟩
theorem Vals.reverse {xs : List V} {us : List Value} (h : Vals xs us) : Vals xs.reverse us.reverse := by
  induction h with
  | nil => exact .nil
  | cons r t ih => rw [List.reverse_cons, List.reverse_cons]; exact Vals.append ih (.cons r .nil)
section
variable {X : Cx} {pins : List (Addr × Obj)} {σ : St} {H : Hp} {s : Shared} {l b : Addr} {xs ys zs : List V}

/-! ### the two steps: a tracked list is rewritten, a new list is laid -/
theorem Inv.lset {its its' : List Value} {n : Nat} {f : Array Value → Array Value} {t' : Nat} (I : Inv X pins σ H s) (hH : H l = some (.lst xs))
    (e : s.heap.get? l = some { cls := .type "list", data := .seq its.toArray n }) (hf : f its.toArray = its'.toArray) (hv : Vals ys its') (hz : ys.length ≤ sizeLine) :
    Inv X pins σ (upd H l (.lst ys)) { s with heap := s.heap.update l (Obj.mapSeq f), toks := t' } := by
  have q := PySem.IsL.update e f
  rw [hf] at q
  refine I.write (x := l) (e := l) (by rw [hH]; exact trivial) (.inl rfl) (fun b' u hb hu => (Heap.get?_update_other s.heap (Obj.mapSeq f) (Ne.symm hb)).trans hu) ⟨_, q⟩ ?_
  exact ⟨hz, its', _, hv, q⟩
theorem Inv.lnew {its : List Value} {t' : Nat} (I : Inv X pins σ H s) (hv : Vals ys its) (hz : ys.length ≤ sizeLine) :
    Inv X pins σ (upd H s.heap.objs.size (.lst ys)) { s with heap := s.heap.push { cls := .type "list", data := .seq its.toArray }, toks := t' } :=
  I.laid (fun _ _ q => Heap.get?_push_of_some _ q) (Nat.le_refl _) ⟨hz, its, 0, hv, Heap.get?_push_size _ rfl⟩
theorem Inv.fresh (I : Inv X pins σ H s) : H s.heap.objs.size = none := I.hok.fresh (Nat.le_refl _)
theorem Inv.lstM (I : Inv X pins σ H s) (hH : H l = some (.lst xs)) : xs.length ≤ sizeLine ∧ ∃ (its : List Value) (n : Nat), Vals xs its ∧ xs.length = its.length ∧ s.heap.get? l = some { cls := .type "list", data := .seq its.toArray n } := by
  obtain ⟨z, its, n, r, e⟩ := I.hok l _ hH
  exact ⟨z, its, n, r, r.length, e⟩

end

section
variable {X : Cx}

/-! ### methods -/
def rAppend : V → List V → Hp → VK → Prop := fun x vs H Q => ∃ l xs y, x = .ref l ∧ vs = [y] ∧ H l = some (.lst xs) ∧ xs.length < sizeLine ∧ Q .non (upd H l (.lst (xs ++ [y])))
theorem mt_append : MtM X "list.append" rAppend := by
  intro pins s σ H x vs v us Q I rx rv h
  obtain ⟨l, xs, y, rfl, rfl, hH, hz, q⟩ := h
  cases rx
  obtain ⟨u, rfl, ru⟩ := rv.one
  obtain ⟨z, its, n, r, hl, e⟩ := I.lstM hH
  refine call_meets F.slot_list_append ⟨_, e, rfl⟩ F.entry_list_append (F.args_list_append_2 _ _) (PySem.list_append l its.toArray n u (by rw [List.size_toArray]; omega)) ⟨e, ?_⟩
  refine ⟨.non, _, I.lset (its' := its ++ [u]) hH e (by simp) (r.append (.cons ru .nil)) ?_, rfl, q⟩
  rw [List.length_append, List.length_singleton]
  omega

/-! ### list + list, list += list, list * int -/
def rCat : R2 := fun x y H Q => ∃ l b xs zs, x = .ref l ∧ y = .ref b ∧ H l = some (.lst xs) ∧ H b = some (.lst zs) ∧ xs.length + zs.length ≤ sizeLine ∧ ∀ p, H p = none → Q (.ref p) (upd H p (.lst (xs ++ zs)))
theorem op_cat : OpR X (binaryOp .Add) rCat := by
  intro pins s σ H x y v u Q I rx ry h
  obtain ⟨l, b, xs, zs, rfl, rfl, hH, hB, hz, q⟩ := h
  cases rx
  cases ry
  obtain ⟨z, its, n, r, hl, e⟩ := I.lstM hH
  obtain ⟨z2, its2, n2, r2, hl2, e2⟩ := I.lstM hB
  refine PySem.P.add_list e e2 ?_ (by rw [List.size_toArray, List.size_toArray]; omega)
  have ea : its.toArray ++ its2.toArray = (its ++ its2).toArray := by simp
  rw [ea]
  exact ⟨.ref _, _, I.lnew (t' := s.toks) (r.append r2) (by rw [List.length_append]; omega), rfl, q _ I.fresh⟩
end

/-! ### xs[a:b] = ys -/
section
variable {prog : Program} {w : World} {A : Around} {E : Value → Shared → Prop} {s : Shared}
set_option maxRecDepth 100000 in
end

section
variable {X : Cx}
end
end L2

namespace Att
open PySem PySem.W PySem.Calls PyProof.Rows

/-! ### the script -/
theorem ints_of_wellAll {P : Params} {h : Heap} : ∀ (ns : List Int) (vs : List Value), WellAll P h vs (ns.map WData.int) → IntsAre vs ns := by
  intro ns
  induction ns with
  | nil =>
    intro vs w
    rw [List.map_nil] at w
    cases w
    exact .nil
  | cons n ns ih =>
    intro vs w
    rw [List.map_cons] at w
    cases w with
    | cons a b =>
      cases a
      exact .cons _ _ (ih _ b)

theorem script_of {l : OpenLaw} {n : Nat} (hn : l.most = some n) {P : Params} {h : Heap} {args : List WData} {vals : List Value}
    (hpre : l.row.toRowW.claim.pre args = true) (hwl : WellAll P h vals args) :
    ∃ a vs ns, vals = [Value.ref a] ∧ args = [WData.list (ns.map WData.int)] ∧ h.get? a = some { cls := .type "list", data := .seq vs.toArray } ∧ IntsAre vs ns ∧ ns.length ≤ n := by
  have hsh : WShape.hasAll [] args [.list .int] = true := (pre_splitW hpre).1
  have hc : l.pre.holds [] { args := args } = true := (pre_splitW hpre).2
  obtain ⟨d, r, rfl, h1, h2⟩ := hasAllW_cons hsh
  obtain rfl := hasAllW_nil h2
  obtain ⟨xs, rfl, h3⟩ := hasW_list h1
  obtain ⟨ns, rfl⟩ := items_int h3
  have hlen : ns.length ≤ n := by
    unfold OpenLaw.pre at hc
    have h4 : (WTm.not (.lt (.lit (.int (n : Int))) (.len (.arg 0)))).holds [] { args := [.list (ns.map .int)] } = true := by
      have h4 := (holds_andW hc).1
      rw [hn] at h4
      exact h4
    have h5 := condW_of h4 (w_not (w_lt w_lit (w_len_list (w_arg rfl))))
    rw [List.length_map] at h5
    refine Nat.le_of_not_lt fun q => ?_
    have q' : (n : Int) < ((ns.length : Nat) : Int) := by omega
    first
      | (rw [decide_eq_true q'] at h5; exact absurd h5 (by decide))
      | (simp at h5; omega)
  cases hwl with
  | cons w1 w2 =>
    cases w2
    cases w1 with
    | list ho hall => exact ⟨_, _, ns, rfl, rfl, ho, ints_of_wellAll ns _ hall, hlen⟩

theorem post_true (l : OpenLaw) (args : List WData) : l.row.toRowW.claim.post args (.bool true) args = true :=
  postW_of (r := l.row.toRowW) (X := (true == true))
    (show WShape.has [] (.bool true) .bool = true by first | rfl | decide | simp [WShape.has, WShape.arms, WShape.armsAll])
    (show (WTm.eq .res (.lit (.bool true))).value [] { args := args, res := some (.bool true), after := args } = some (.bool (true == true)) from w_eq_bool (w_res rfl) w_lit) rfl

/-- the same from a codeAny of the CALL (for a layer whose function contracts speak of calls) -/
theorem attach_call {l : OpenLaw} {n : Nat} {q : Program} {loose : List Str} {XP : (Str → Option Value) → Heap → Prop} {YP : World → Heap → Prop} {d : DefRec}
    (hn : l.most = some n) (hdf : d.params.defaults = [])
    (call : ∀ (w : World) (s₀ s₁ : Shared) (mg mb : Str → Option Value) (fa : Addr) (o : Obj) (pm cd doc : Value) (a : Addr) (vs : List Value) (ns : List Int),
      Ground q loose [] XP w s₀ mg mb s₁.heap → YP w s₁.heap →
      s₁.heap.get? fa = some o → o.data = .func (docDef d.name d.params d.body d.scope pm cd doc) → s₁.heap.CodeRec cd d.name → mg d.name = some (.ref fa) →
      s₁.heap.get? a = some { cls := .type "list", data := .seq vs.toArray } → IntsAre vs ns → ns.length ≤ n → s₁.gens = #[] →
      codeAny (model l.prog w) callerA (.call (.ref fa) ⟨[.ref a], []⟩) (fun r s' => r = .ok (.ret (.bool true)) ∧ OldK s₁.heap s'.heap ∧ s'.os = s₁.os ∧ AllBare s'.gens) s₁) :
    WalkO q loose XP YP l.row.toRowW d [] (fun f vs => PySem.call f vs) := by
  intro w s₀ s₁ mg mb G Y fa o pm cd doc dV kV ho hd hcd hD hmg hg args vals as hpre hlay hrd hwl hlo
  obtain rfl : dV = .none := Dflts.none hD hdf
  obtain rfl : kV = .none := Dflts.noKw hD
  obtain ⟨a, vs, ns, rfl, rfl, hobj, hints, hlen⟩ := script_of hn hpre hwl
  refine enter_call (codeAny_mono (call w s₀ s₁ mg mb fa o pm cd doc a vs ns G Y ho (fd_plain hd) hcd hmg hobj hints hlen hg) fun r s' hq => ?_)
  obtain ⟨rfl, h2, h3, h4⟩ := hq
  exact ⟨.inl ⟨.bool true, .bool true, [], rfl, fun _ => rfl, .bool true, post_true l _, fun _ => ⟨List.Pairwise.nil, fun _ hm => (nomatch hm)⟩⟩, h2, h3, h4⟩

/-! ### rules over ANY heap (no ledger) from facts about the written part K: the library's own take a ledger (News) for what they write -/
section
variable {prog : Program} {w : World} {A : Around} {E : Value → Shared → Prop} {s : Shared} {K : Frag}

end
end Att

namespace L2
open PySem PySem.Spec PyProof.Rows

theorem vals_ints : ∀ {vs : List Value} {ns : List Int}, IntsAre vs ns → Vals (ns.map V.int) vs
  | _, _, .nil => .nil
  | _, _, .cons n t h => .cons ⟨t, rfl⟩ (vals_ints h)

/-- nothing is tracked but the script, known to the object (or it is an object of the module) -/
def Only (H : Hp) : Prop := ∀ b, H b = none ∨ ∃ o xs, H b = some (.frz o (.lst xs))

/-- THE HEAD: the law's promise, at the heap behind the top. F, the promise of the law's def, may use that base is part of the heap (so K.In base, base.Ns mainGlobals mg stand in Mod) -/
theorem law_call {P : Program} {w : World} {K : PySem.W.Frag} {mg mb : Str → Option Value} {CX : CXT} {k : Nat} {fa a : Addr} {fd : FuncData} {x : Str} {sp : Sp} {s₁ : Shared} {vs : List Value} {ns : List Int}
    (KX : K.In s₁.heap) (hns : s₁.heap.Ns mainGlobals mg) (hb : s₁.heap.Ns builtinsNs mb) (hbb : ∀ x : Str, x ≠ "__name__" → mb x = bootBuiltins x) (hlim : s₁.heap.NoLimit) (hg : s₁.gens = #[])
    (ha : s₁.heap.get? a = some { cls := .type "list", data := .seq vs.toArray }) (hi : IntsAre vs ns) (hl : ns.length ≤ sizeLine) (hr : Room k callerA)
    (F : ∀ base : Heap, K.In base → base.Ns mainGlobals mg → FnOk P w K mg base CX k fa fd [x] sp) (hbind : ∀ (s : Shared) (u : Value), BindsTo s fd ⟨[u], []⟩ [(x, u)])
    (hsp : ∀ H : Hp, Only H → SqL K H a (ns.map V.int) → sp [.ref a] H (fun v _ => v = .bl true) fun _ _ _ => False)
    (hCX : ∀ H e s', CX [] H s₁ (fun _ _ _ => False) e s' → False) :
    codeAny (model P w) callerA (.call (.ref fa) ⟨[.ref a], []⟩) (fun r s' => r = .ok (.ret (.bool true)) ∧ OldK s₁.heap s'.heap ∧ s'.os = s₁.os ∧ AllBare s'.gens) s₁ := by
  have rv := vals_ints hi
  have lenV := hi.length
  -- from an abstract heap in which nothing but the script may be tracked
  have core : ∀ H : Hp, Only H → SqL K H a (ns.map V.int) → HOk P w H s₁.heap → (∀ b, H b ≠ none → b = a) → (H a ≠ none → K.lookup a = none) →
      codeAny (model P w) callerA (.call (.ref fa) ⟨[.ref a], []⟩) (fun r s' => r = .ok (.ret (.bool true)) ∧ OldK s₁.heap s'.heap ∧ s'.os = s₁.os ∧ AllBare s'.gens) s₁ := by
    intro H hO hS hok hA hK
    have base_of : ∀ {b : Addr} {o : Obj}, s₁.heap.get? b = some o → H b = none → (hidT s₁.heap H).get? b = some o := fun e n => hidT_get e n
    have noA : ∀ {b : Addr} {o : Obj} {es : Array DictEntry} {ep : Nat}, s₁.heap.get? b = some o → o.data = .dict es ep → H b = none := fun {b o es ep} e d => by
      cases q : H b with
      | none => rfl
      | some u =>
        have e' : b = a := hA b (by rw [q]; simp)
        subst e'
        rw [ha] at e; cases e
        have d' : Data.seq vs.toArray _ = Data.dict es ep := d
        cases d'
    have nsK : ∀ {b : Addr} {m : Str → Option Value}, s₁.heap.Ns b m → (hidT s₁.heap H).Ns b m := fun {b m} ⟨o, es, ep, e, d, r⟩ => ⟨o, es, ep, base_of e (noA e d), d, r⟩
    have hKb : K.In (hidT s₁.heap H) := fun b o e => base_of (KX b o e) (by
      cases q : H b with
      | none => rfl
      | some u =>
        have e' : b = a := hA b (by rw [q]; simp)
        subst e'
        rw [hK (by rw [q]; simp)] at e; cases e)
    have hM : Mod K mg (hidT s₁.heap H) := ⟨hKb, nsK hns, ⟨mb, nsK hb, hbb⟩, let ⟨mc, h1, h2⟩ := hlim; ⟨mc, nsK h1, h2⟩⟩
    have e0 : Env0 P w K mg (hidT s₁.heap H) callerA [] s₁ H := ⟨rfl, hM, fun b o e => of_hidT e, Nat.le_of_eq (hidT_size _ _), trivial, fun b hb => absurd (show b ∈ ([] : List Addr) from hb) (by simp), hok, .of_eq hg⟩
    refine codeAny_mono ((F _ hKb (nsK hns)).run callerA [] s₁ H ⟨[.ref a], []⟩ [.ref a] [.ref a] _ _ hr e0 (hbind s₁ (.ref a)) (.cons rfl .nil) (hsp H hO hS)) fun r s' h => ?_
    cases r with
    | error e => exact (hCX H e s' h).elim
    | ok fl =>
      cases fl with
      | next => exact False.elim h
      | brk => exact False.elim h
      | cont => exact False.elim h
      | ret u =>
        obtain ⟨v, H', os, bare, un, hok', r', q⟩ := h
        have q' : v = .bl true := q
        subst q'
        obtain rfl : u = Value.bool true := r'
        refine ⟨rfl, OldK.of_keep fun b o e => ?_, os, bare⟩
        cases q : H b with
        | none => exact un.keep b o e q (by intro z; exact absurd (show b ∈ ([] : List Addr) from z) (by simp)) (by simp)
        | some u =>
          rcases hO b with z | ⟨ob, xs, z⟩
          · rw [q] at z; cases z
          · have z2 := un.frzs b ob _ z
            obtain ⟨e1, _⟩ := hok b _ z
            obtain ⟨e2, _⟩ := hok' b _ z2
            rw [e] at e1; cases e1
            exact e2
  cases hk : K.lookup a with
  | some o =>
    -- the script is one of the module's own objects
    have e := KX a o hk
    rw [ha] at e
    cases e
    refine core (fun _ => none) (fun _ => .inl rfl) (.inr ⟨_, vs.toArray, _, hk, rfl, rfl, rfl, by rw [List.size_toArray, lenV]; exact hl, by simpa using rv⟩) (fun b u z => by have z' : (none : Option HO) = some u := z; cases z') (fun b z => absurd rfl z) fun z => absurd rfl z
  | none =>
    refine core (fun b => if b = a then some (.frz { cls := .type "list", data := .seq vs.toArray } (.lst (ns.map V.int))) else none) (fun b => ?_) (.inl (.inr ⟨{ cls := .type "list", data := .seq vs.toArray }, if_pos rfl⟩)) (fun b u z => ?_) (fun b z => ?_) fun _ => hk
    · by_cases hb : b = a
      · exact .inr ⟨_, _, if_pos hb⟩
      · exact .inl (if_neg hb)
    · by_cases hb : b = a
      · have z' := (if_pos hb).symm.trans z
        cases z'
        subst hb
        exact ⟨ha, by rw [List.length_map]; exact hl, vs, _, rv, ha⟩
      · have z' := (if_neg hb).symm.trans z
        cases z'
    · by_cases hb : b = a
      · exact hb
      · exact absurd (if_neg hb) z
end L2

namespace L2
open PySem PySem.Spec PyProof.Rows

end L2

/- THE LAST THEOREM (shape; LID, My.* are yours):
   My.Adr: a structure of the addresses that your layer names (classes, functions); My.Txt K t: a structure (Prop) of the equations over K;
   My.txt_mk : {K} {implicit addresses ..} (e1 : nsIn K mainGlobals "law" = some (some (.ref f))) (e2 : K.lookup f = some ⟨oc, od, .func (fnOf "law" "law" params body scope dV kV doc pm an cdv ct), sl⟩) (e3 : codeIn K cdv "law" = true) .. : ∃ t, My.Txt K t

set_option maxRecDepth 100000 in
set_option maxHeartbeats 0 in
theorem PySem.Challenge.cw_LID_holds : PySem.Challenge.rw_LID.Holds := by
  w_on; o_law; k_head; (case hw => w_witness2)
  k_fill
  refine L2.walk_of (l := PySem.Challenge.rw_LID) (n := 63) (k := 40) (x := "script") (CX := fun w => ..) (sp := fun _ => My.sp_law) rfl (by decide) rfl ⟨rfl, by decide, by decide⟩ (fun w h Y => PySem.W.kIn_of Y) ?F ?S ?C
  case F =>
    intro w mg fa h KX G hmg
    have T : ∃ t, My.Txt (L2.KOf KX) t := by
      dsimp only [L2.KOf]                          -- K must stand as «<heap const> w.params» for k_is
      refine' My.txt_mk ?e1 ?e2 ?e3 ..
      (case e1 => PySem.W.k_is)                    -- in the order: a name -> its address -> its object -> its parts
      (case e2 => PySem.W.k_is)
      ..
    obtain ⟨t, T⟩ := T
    have e0 := hmg.symm.trans (PySem.W.mg_of KX G T.law)
    cases e0                                       -- fa is the law's own address
    exact ⟨_, fun s u => .of_eq rfl, fun base kb nb => My.law_fn T kb nb⟩     -- if «.of_eq rfl» comes too early: refine' ⟨_, ?b, fun base kb nb => My.law_fn T kb nb⟩; exact fun s u => .of_eq rfl
  case S => exact fun w H a ns hl hO hS => ..
  case C => exact ..
(the tactic k_is has no namespace: write k_is) -/

/-! SHORT WORDS over the layer: a def of the text, its body, what a loop and a test want. -/
namespace L2
open PySem PySem.Spec PyProof.Rows

/-! ### the text by places -/
def defArgs (s : Stmt) : Arguments := match s with
  | .FunctionDef _ a _ _ _ _ _ _ _ _ => a
  | _ => { posonlyargs := [], args := [], vararg := none, kwonlyargs := [], kw_defaults := [], kwarg := none, defaults := [] }
def defBody (s : Stmt) : List Stmt := match s with
  | .FunctionDef _ _ b _ _ _ _ _ _ _ => b
  | _ => []
def defScope (s : Stmt) : Scope := match s with
  | .FunctionDef _ _ _ _ _ _ sc _ _ _ => sc
  | _ => { kind := .function, names := [], isGenerator := false, isCoroutine := false }

/-! ### no exception leaves a def -/
abbrev CX0 : CXT := fun _ _ _ _ _ _ => False
abbrev E0 : XK := fun _ _ _ => False
theorem pass0 {X : Cx} : Passes CX0 X E0 := fun _ _ _ _ _ _ _ h => h.elim

/-! ### a def (or method) of the text as it stands behind the top -/
structure Fun (K : PySem.W.Frag) (x qual : Str) (st : Stmt) (f : Addr) (fd : FuncData) : Prop where
  ex : ∃ (oc : Value) (od : Option Addr) (kV doc pm : Value) (an : Option Addr) (cdv ct : Value) (osl : Array (Option Value)),
    fd = PySem.W.fnOf x qual (defArgs st) (defBody st) (defScope st) .none kV doc pm an cdv ct ∧ K.lookup f = some ⟨oc, od, .func fd, osl⟩ ∧ PySem.W.codeIn K cdv qual = true
  kp : PySem.W.keepIn K (.ref f) = true
section
variable {P : Program} {w : World} {K : PySem.W.Frag} {mg : Str → Option Value} {base : Heap}
/-- THE RULE for a def: its body as a term of rules, and the reading of that term -/
theorem Fun.ok {x qual : Str} {st : Stmt} {f : Addr} {fd : FuncData} {N ps : List Str} {k : Nat} {sp : Sp} (F : Fun K x qual st f fd) (S : FnScope N ps (defScope st)) (len : ∀ vs H Q E, sp vs H Q E → vs.length = ps.length)
    (hbody : ∀ (cdv : Value) (A : Around) (outer : List Env) (s : Shared) (H : Hp) (vs : List V) (Q : VK) (E : XK), Room k (A.deeper (envOfC qual (defScope st) s.heap.objs.size f cdv)) → sp vs H Q E →
      ∃ t, PSs (cxOf CX0 P w K mg base N qual (defScope st) f cdv A outer s H E).nox (defBody st) t ∧ t { nx := fun _ H' => Q .non H', rt := Q } (start N vs) H) : FnOk P w K mg base CX0 (k + 1) f fd ps sp := by
  obtain ⟨oc, od, kV, doc, pm, an, cdv, ct, osl, rfl, lk, hcd⟩ := F.ex
  refine fn_of lk hcd S len fun A outer s H vs Q E hr hsp => ?_
  obtain ⟨t, h, q⟩ := hbody cdv A outer s H vs Q E hr hsp
  exact ⟨t, h.nox, q⟩
/-- how its arguments bind (no defaults): h is «fun _ _ _ _ _ _ us hl => match us, hl with | [_, _], _ => rfl», one _ a parameter -/
theorem Fun.binds {x qual : Str} {st : Stmt} {f : Addr} {fd : FuncData} {ps : List Str} (F : Fun K x qual st f fd)
    (h : ∀ (kV doc pm : Value) (an : Option Addr) (cdv ct : Value) (us : List Value), us.length = ps.length → bindArgs (PySem.W.fnOf x qual (defArgs st) (defBody st) (defScope st) .none kV doc pm an cdv ct) ⟨us, []⟩ = pure (ps.zip us)) : Binds K fd ps [] := by
  obtain ⟨oc, od, kV, doc, pm, an, cdv, ct, osl, rfl, lk, hcd⟩ := F.ex
  exact .all (h kV doc pm an cdv ct)
theorem fun_mk {x qual : Str} {st : Stmt} {f : Addr} {oc : Value} {od an : Option Addr} {osl : Array (Option Value)} {kV doc pm cdv ct : Value} (l : K.lookup f = some ⟨oc, od, .func (PySem.W.fnOf x qual (defArgs st) (defBody st) (defScope st) .none kV doc pm an cdv ct), osl⟩)
    (c : PySem.W.codeIn K cdv qual = true) (k : PySem.W.keepIn K (.ref f) = true) : Fun K x qual st f (PySem.W.fnOf x qual (defArgs st) (defBody st) (defScope st) .none kV doc pm an cdv ct) := ⟨⟨oc, od, kV, doc, pm, an, cdv, ct, osl, rfl, l, c⟩, k⟩
end
/-! ### expressions in short: the name that stands in the i-th slot -/
section
variable {X : Cx}
theorem pv (i : Nat) {x : Str} {pos : Pos} (hN : X.N[i]? = some x := by rfl) (hv : Vis X.env.scope x := by first | exact Or.inl rfl | exact Or.inr (Or.inl rfl) | exact Or.inr (Or.inr rfl)) (hd : (x == ("__debug__" : Str)) = false := by decide)
    (hcd : (x == ("__classdict__" : Str)) = false := by decide) : PE X (.Name x pos) (tVar i) := pe_var hN hv hd hcd
end

/-! ### tests -/
theorem iteF {A B : Prop} (h : B) : if false = true then A else B := by
  rw [if_neg Bool.false_ne_true]
  exact h
/-! ### heaps -/
/-- all that was tracked is as it was -/
def Same (H H' : Hp) : Prop := ∀ b o, H b = some o → H' b = some o
theorem Same.refl (H : Hp) : Same H H := fun _ _ h => h
theorem Same.trans {H H1 H2 : Hp} (a : Same H H1) (b : Same H1 H2) : Same H H2 := fun c o h => b c o (a c o h)
theorem Same.free {H H' : Hp} (e : Same H H') {l : Addr} (h : H' l = Option.none) : H l = Option.none := by
  cases q : H l with
  | none => rfl
  | some o =>
    rw [e l o q] at h
    cases h
theorem Same.seq {K : PySem.W.Frag} {H H' : Hp} {a : Addr} {xs : List V} (e : Same H H') (h : SqL K H a xs) : SqL K H' a xs := by
  rcases h with (h | ⟨o, h⟩) | h
  · exact .inl (.inl (e _ _ h))
  · exact .inl (.inr ⟨o, e _ _ h⟩)
  · exact .inr h

end L2

set_option maxHeartbeats 4000000
/-! RULES OF MY OWN over the layer: great products and quotients, sequences by what the heap says, tuples compared, isinstance, calls by a packed contract. -/
namespace L2
open PySem PySem.Spec PyProof.Rows
open PySem.Builtin.Int (intBits)
def CMulB (i j : Int) : Prop := intBits i ≤ 9000 ∧ intBits j ≤ 9000
def CDivB (_ j : Int) : Prop := j ≠ 0 ∧ intBits j ≤ 9000
theorem noPy_bits {x y : Int} (h : intBits y ≤ 9000) : Builtin.divisionGoesByPylong x y = false := by
  by_cases h0 : y = 0
  · subst h0; exact PyProof.noPylong_small (by decide)
  · refine PyProof.noPylong_of_log2 ?_
    have q := intBits_le_iff.mp h
    have hn : y.natAbs ≠ 0 := by omega
    exact (Nat.log2_lt hn).mpr q
section
variable {X : Cx} {a b : Expr} {ta tb : TE} {pos : Pos}
theorem op_mulB : OpR X (binaryOp .Mult) (rI CMulB fun i j => .int (i * j)) := opI fun _ _ _ _ _ _ _ hc q => mul_int q (IntMulOk.of_le hc.1 hc.2 (by decide))
theorem op_fdivB : OpR X (binaryOp .FloorDiv) (rI CDivB fun i j => .int (i.fdiv j)) := opI fun _ _ _ _ _ _ _ hc q => floordiv_int hc.1 q (.inl (noPy_bits hc.2))
theorem op_eqI : OpR X (compareOp .Eq) (rI0 fun i j => .bl (decide (i = j))) := opB0 fun _ _ _ _ _ _ _ q => eq_int (by rw [Bool.beq_eq_decide_eq]; exact q)
theorem op_neI : OpR X (compareOp .NotEq) (rI0 fun i j => .bl (!decide (i = j))) := opB0 fun _ _ _ _ _ _ _ q => ne_int (by rw [bne, Bool.beq_eq_decide_eq]; exact q)
/-- the items at an address: a list's or a tuple's -/
def ItsAt (H : Hp) (p : Addr) (xs : List V) : Prop := H p = some (.tup xs) ∨ H p = some (.lst xs)
def rIxF : R2 := fun x y H Q => ∃ p xs i v, x = .ref p ∧ y = .int i ∧ ItsAt H p xs ∧ atI xs i = some v ∧ Q v H
theorem ix_any : IxR X rIxF := by
  intro value slice pins s σ H x y v u Q I rx ry h hs
  obtain ⟨p, xs, i, z, e1, e2, hq, he, q⟩ := h
  rcases hq with hq | hq
  · exact ix_tup value slice pins s σ H x y v u Q I rx ry ⟨p, xs, i, z, e1, e2, SqT.of hq, he, q⟩ hs
  · exact ix_list value slice pins s σ H x y v u Q I rx ry ⟨p, xs, i, z, e1, e2, SqL.of hq, he, q⟩ hs
/-- a def of the text that keeps a contract, called by its name -/
structure Cal (P : Program) (w : World) (K : PySem.W.Frag) (mg : Str → Option Value) (base : Heap) (x : Str) (ps : List Str) (k : Nat) (sp : Sp) : Prop where
  ex : ∃ f fd, mg x = some (.ref f) ∧ PySem.W.keepIn K (.ref f) = true ∧ Binds K fd ps [] ∧ FnOk P w K mg base CX0 k f fd ps sp
/-- a def of the text as it stands -/
structure Fnd (K : PySem.W.Frag) (mg : Str → Option Value) (x : Str) (st : Stmt) (ps : List Str) : Prop where
  ex : ∃ f fd, mg x = some (.ref f) ∧ Fun K x x st f fd ∧ Binds K fd ps []
theorem Cal.imp {P : Program} {w : World} {K : PySem.W.Frag} {mg : Str → Option Value} {base : Heap} {x : Str} {ps : List Str} {k : Nat} {sp sp' : Sp} (c : Cal P w K mg base x ps k sp) (h : ∀ vs H Q E, sp' vs H Q E → sp vs H Q E) : Cal P w K mg base x ps k sp' := by
  obtain ⟨f, fd, m, kp, b, F⟩ := c.ex
  exact ⟨f, fd, m, kp, b, F.imp h⟩
theorem pe_cal {x : Str} {ps : List Str} {j k : Nat} {sp : Sp} {p : Pos} {e : Expr} {es : List Expr} {t : TA} (c : Cal X.prog X.w X.K X.mg X.base x ps j sp) (hr : Room k X.A) (hg : Gl X x) (ha : PA X (e :: es) t) (hjk : j ≤ k := by decide)
    (hdb : (x == ("__debug__" : Str)) = false := by decide) (he : starEach (e :: es) X.env = (false, eval e X.env) :: starEach es X.env := by rfl) (hpl : (backTo pos (starEach es X.env)).any (·.1) = false := by rfl) :
    PE X (.Call (.Name x p) (e :: es) [] pos) (tCall sp [] E0 t) := by
  obtain ⟨f, fd, m, kp, b, F⟩ := c.ex
  exact pe_call F (hr.mono hjk) hg m kp b .nil pass0 ha hdb he hpl
theorem Fnd.ok {P : Program} {w : World} {K : PySem.W.Frag} {mg : Str → Option Value} {base : Heap} {x : Str} {st : Stmt} {N ps : List Str} {k : Nat} {sp : Sp} (F : Fnd K mg x st ps) (S : FnScope N ps (defScope st)) (len : ∀ vs H Q E, sp vs H Q E → vs.length = ps.length)
    (hbody : ∀ (f : Addr) (cdv : Value) (A : Around) (outer : List Env) (s : Shared) (H : Hp) (vs : List V) (Q : VK) (E : XK), Room k (A.deeper (envOfC x (defScope st) s.heap.objs.size f cdv)) → sp vs H Q E →
      ∃ t, PSs (cxOf CX0 P w K mg base N x (defScope st) f cdv A outer s H E).nox (defBody st) t ∧ t { nx := fun _ H' => Q .non H', rt := Q } (start N vs) H) : Cal P w K mg base x ps (k + 1) sp := by
  obtain ⟨f, fd, m, Fu, b⟩ := F.ex
  exact ⟨f, fd, m, Fu.kp, b, Fu.ok S len (hbody f)⟩
end
theorem iteD {p : Prop} [Decidable p] {A B : Prop} (h1 : p → A) (h2 : ¬ p → B) : if decide p = true then A else B := by
  by_cases h : p
  · rw [decide_eq_true h]; exact h1 h
  · rw [decide_eq_false h]; exact h2 h
theorem iteDn {p : Prop} [Decidable p] {A B : Prop} (h1 : ¬ p → A) (h2 : p → B) : if (!decide p) = true then A else B := by
  by_cases h : p
  · rw [decide_eq_true h]; exact h2 h
  · rw [decide_eq_false h]; exact h1 h
/-- all but what lies at b is as it was -/
def Ext (b : Addr) (H H' : Hp) : Prop := ∀ a o, a ≠ b → H a = some o → H' a = some o
theorem Ext.trans {b : Addr} {H H1 H2 : Hp} (e : Ext b H H1) (f : Ext b H1 H2) : Ext b H H2 := fun a o n h => f a o n (e a o n h)
theorem Ext.upd (b : Addr) (H : Hp) (o : HO) : Ext b H (L2.upd H b o) := fun a u n h => by rw [upd_ne n]; exact h
theorem same_new {H : Hp} {p : Addr} (h : H p = none) (o : HO) : Same H (L2.upd H p o) := fun b u q => by rw [upd_ne (ne_of_none q h)]; exact q
end L2

/-! A comprehension of one clause without a test, its element any expression; free names are the outer def's cells. -/
namespace L2
open PySem PySem.Spec PyProof.Rows
theorem HOk.but {P : Program} {w : World} {H : Hp} {h h' : Heap} {C : Addr} (x : HOk P w H h) (n : H C = none) (k : ∀ b u, b ≠ C → h.get? b = some u → h'.get? b = some u) : HOk P w H h' := fun a o e =>
  (x a o e).stay (fun b u hb q => k b u (by rcases hb with rfl | hb; exact ne_of_none e n; exact ne_of_none hb n) q) (fun _ q => q) fun _ _ q => q
theorem Un.but {fs ex : List Addr} {H H' : Hp} {h h1 h2 : Heap} {C : Addr} (u : Un fs ex H H' h h1) (hC : h.get? C = none) (k : ∀ b u, b ≠ C → h1.get? b = some u → h2.get? b = some u) : Un fs ex H H' h h2 where
  keep := fun b o q n f e => k b o (by rintro rfl; rw [hC] at q; cases q) (u.keep b o q n f e)
  slot := fun b o q n f e => by
    obtain ⟨sl, z⟩ := u.slot b o q n f e
    exact ⟨sl, k b _ (by rintro rfl; rw [hC] at q; cases q) z⟩
  free := u.free
  there := fun b o q e => by
    obtain ⟨o', z⟩ := u.there b o q e
    exact ⟨o', k b _ (by rintro rfl; rw [hC] at q; cases q) z⟩
  tups := u.tups
  frzs := u.frzs
  tbls := u.tbls
/-- the context of a comprehension's block -/
def compCx (X : Cx) (N : List Str) (scope : Scope) (cl : List (Str × Addr)) (C : Addr) (s : Shared) (H : Hp) (ex : List Addr) : Cx :=
  { X with N := N, s₀ := s, H₀ := H, env := compEnvC scope cl C X.env, outer := X.stack, ex := ex, fn := fun _ => false, pn := [], xe := fun _ _ => False }
/-- the values of the free names, from the slots js -/
def freeV (σ : St) (js : List Nat) : St := js.map fun j => (σ[j]?).join
section
variable {X : Cx}
end
end L2

namespace L2
open PySem PySem.Spec PyProof.Rows
theorem Vals.getR : ∀ {xs : List V} {us : List Value} {i : Nat} {u : Value}, Vals xs us → us[i]? = some u → ∃ x, xs[i]? = some x ∧ RelV x u
  | _, _, _, _, .nil, e => by simp at e
  | _, _, 0, _, .cons r _, e => by simp at e; subst e; exact ⟨_, rfl, r⟩
  | _, _, i + 1, u, .cons _ t, e => by
    obtain ⟨x, h1, h2⟩ := Vals.getR (i := i) (u := u) t (by simpa using e)
    exact ⟨x, by simpa using h1, h2⟩
section
variable {X : Cx}
/-- the sum of a list of ints -/
theorem call_sum (hc : X.calm = true) : CallR X (.builtin "sum") (fun xs H Q => ∃ (l : Addr) (ns : List Int), xs = [.ref l] ∧ H l = some (.lst (ns.map V.int)) ∧ Q (.int ns.sum) H) := by
  intro pins s σ H xs us Q I r h
  obtain ⟨l, ns, rfl, hl, q⟩ := h
  obtain ⟨u, rfl, r1⟩ := vals1 r
  cases r1
  obtain ⟨its, rv, pl, hz⟩ := I.list (SqL.of hl)
  have hi := intsAre_of rv
  obtain ⟨ws, hx⟩ := hi.allInts.items
  have hl' : s.heap.IsList l (intItems ws) := hx ▸ pl.isList
  refine sum_intListG (I.ok.hd hc) hl' fun h' tk t' hk => ?_
  have e1 : ns = ws.toList.map (·.1) := by
    rw [← nums_intItems, ← hx]
    exact (show numsOf its.toArray.toList = ns from hi.numsOf).symm
  have e2 : preSum (numAt ws) ws.size = ns.sum := by
    rw [preSum_eq, List.take_of_length_le (by simp), e1]
  rw [e2]
  exact ⟨.int ns.sum, H, I.kept hk, ⟨_, rfl⟩, q⟩
end
end L2

/-! An own exception without methods: its class attribute, isinstance, a handler that names a base of it. -/
namespace L2
open PySem PySem.Spec PyProof.Rows PySem.W
section
variable {prog : Program} {w : World} {A : Around} {E : Value → Shared → Prop} {h : Heap} {g : Array GenState} {d : Drawn} {t : Nat} {os : OsState} {a C : Addr} {o : Obj} {K : PySem.W.Frag}
end
end L2

/-! raise of an own exception, how it leaves a def, how it is caught. -/
namespace L2
open PySem PySem.Spec PyProof.Rows PySem.W
section
variable {X : Cx}
end
end L2

/-! try: a body whose call raises an own exception, one handler that names a base of it, a suite that hands back. -/
namespace L2
open PySem PySem.Spec PyProof.Rows PySem.W
section
variable {X : Cx} {pins : List (Addr × Obj)} {σ : St} {H : Hp} {s : Shared}
end
end L2

/-! A def that raises an own exception, and a def that catches it and asks of which classes it is. -/
namespace L2
open PySem PySem.Spec PyProof.Rows PySem.W
section
variable {X : Cx}
end
end L2

/-! A def that raises an own exception after it has made new objects. -/
namespace L2
open PySem PySem.Spec PyProof.Rows PySem.W
section
variable {X : Cx} {pins : List (Addr × Obj)} {σ : St} {H : Hp} {s : Shared}
end
end L2

namespace Cut
open PySem
open PySem.Builtin.Int (intBits)
theorem bits_om {x : Int} (h1 : -(2 ^ 64) < x) (h2 : x < 2 ^ 64) : intBits x ≤ 64 := intBits_le_64 h1 h2
theorem bits_of_abs {x t : Int} {n : Nat} (h : x.natAbs ≤ t.natAbs) (ht : intBits t ≤ n) : intBits x ≤ n := intBits_le_of_natAbs h ht
/-- lowest terms, the bottom from 1 on -/
def Low (x y : Int) : Prop := 0 < y ∧ Int.gcd x y = 1
theorem gcd_step {x y : Int} (hx : 0 ≤ x) (hy : 0 < y) : Int.gcd y (x % y) = Int.gcd x y := by
  obtain ⟨m, rfl⟩ := Int.eq_ofNat_of_zero_le hx
  obtain ⟨n, rfl⟩ := Int.eq_ofNat_of_zero_le (Int.le_of_lt hy)
  have e : ((m : Int) % (n : Int)) = ((m % n : Nat) : Int) := rfl
  rw [e]
  show Nat.gcd n (m % n) = Nat.gcd m n
  rw [Nat.gcd_comm m n, Nat.gcd_rec n m, Nat.gcd_comm]
theorem gcd_abs (a b : Int) : Int.gcd (if a < 0 then -a else a) (if b < 0 then -b else b) = Int.gcd a b := by
  have e : ∀ z : Int, (if z < 0 then -z else z).natAbs = z.natAbs := fun z => by split <;> omega
  unfold Int.gcd
  rw [e, e]
theorem gcd_zero_left {x : Int} (h : 0 ≤ x) : ((Int.gcd x 0 : Nat) : Int) = x := by
  rw [Int.gcd_zero_right]; omega
theorem gcd_pos {t b : Int} (hb : b ≠ 0) : 0 < ((Int.gcd t b : Nat) : Int) := by
  have : 0 < Int.gcd t b := Int.gcd_pos_of_ne_zero_right t hb
  omega
/-- exact division by the common divisor, the sign of the bottom carried -/
theorem low_of {t b g s : Int} (hb : b ≠ 0) (hg : g = (Int.gcd t b : Nat)) (hs : s = g ∧ 0 < b ∨ s = -g ∧ b < 0) :
    Low (t.fdiv s) (b.fdiv s) ∧ t.fdiv s * b = t * b.fdiv s ∧ (t.fdiv s).natAbs ≤ t.natAbs ∧ (b.fdiv s).natAbs ≤ b.natAbs := by
  have gp : 0 < g := by rw [hg]; exact gcd_pos hb
  have d1 : g ∣ t := by rw [hg]; exact Int.gcd_dvd_left t b
  have d2 : g ∣ b := by rw [hg]; exact Int.gcd_dvd_right t b
  have s1 : s ∣ t := by rcases hs with ⟨h, _⟩ | ⟨h, _⟩ <;> rw [h]; exact d1; exact Int.neg_dvd.mpr d1
  have s2 : s ∣ b := by rcases hs with ⟨h, _⟩ | ⟨h, _⟩ <;> rw [h]; exact d2; exact Int.neg_dvd.mpr d2
  have s0 : s ≠ 0 := by rcases hs with ⟨h, _⟩ | ⟨h, _⟩ <;> omega
  obtain ⟨x, hx⟩ := s1
  obtain ⟨y, hy⟩ := s2
  have ex : t.fdiv s = x := by rw [hx]; exact Int.mul_fdiv_cancel_left x s0
  have ey : b.fdiv s = y := by rw [hy]; exact Int.mul_fdiv_cancel_left y s0
  have e1 : (t.fdiv s).natAbs ≤ t.natAbs := natAbs_fdiv_le t s
  have e2 : (b.fdiv s).natAbs ≤ b.natAbs := natAbs_fdiv_le b s
  refine ⟨⟨?_, ?_⟩, ?_, e1, e2⟩
  · rw [ey]
    rcases hs with ⟨h, hp⟩ | ⟨h, hp⟩
    · rw [hy, h] at hp
      exact Int.pos_of_mul_pos_right hp gp
    · rw [hy, h] at hp
      have : 0 < g * y := by rw [Int.neg_mul] at hp; omega
      exact Int.pos_of_mul_pos_right this gp
  · rw [ex, ey]
    have q : Int.gcd t b = s.natAbs * Int.gcd x y := by
      rw [hx, hy, Int.gcd_mul_left]
    have sn : s.natAbs = g.toNat := by rcases hs with ⟨h, _⟩ | ⟨h, _⟩ <;> omega
    have gn : g.toNat = Int.gcd t b := by omega
    rw [sn, gn] at q
    have pos : 0 < Int.gcd t b := Int.gcd_pos_of_ne_zero_right t hb
    have : Int.gcd t b * Int.gcd x y = Int.gcd t b * 1 := by omega
    exact Nat.eq_of_mul_eq_mul_left pos this
  · rw [ex, ey]
    have : x * b = x * (s * y) := by rw [← hy]
    have h2 : t * y = s * x * y := by rw [← hx]
    rw [this, h2, ← Int.mul_assoc, Int.mul_comm x s]
theorem dvd_co {k n m : Int} (h : k ∣ n * m) (g : Int.gcd k n = 1) : k ∣ m := by
  have q := Int.dvd_gcd_mul_iff_dvd_mul.mpr h
  rw [g] at q
  simpa using q
/-- one ratio in lowest terms has one form -/
theorem low_uniq {x y x' y' : Int} (h : Low x y) (h' : Low x' y') (e : x * y' = x' * y) : x = x' ∧ y = y' := by
  obtain ⟨p, g⟩ := h
  obtain ⟨p', g'⟩ := h'
  have d1 : y ∣ y' := by
    have : y ∣ x * y' := ⟨x', by rw [e, Int.mul_comm]⟩
    exact dvd_co this (by rw [Int.gcd_comm]; exact g)
  have d2 : y' ∣ y := by
    have : y' ∣ x' * y := ⟨x, by rw [← e, Int.mul_comm]⟩
    exact dvd_co this (by rw [Int.gcd_comm]; exact g')
  have ey : y = y' := Int.dvd_antisymm (Int.le_of_lt p) (Int.le_of_lt p') d1 d2
  refine ⟨?_, ey⟩
  rw [ey] at e
  exact Int.eq_of_mul_eq_mul_right (by omega) e
end Cut
namespace Cut
end Cut
namespace Cut
/-- a point in lowest form -/
def Pt (x y z : Int) : Prop := 0 < z ∧ Int.gcd (Int.gcd x y : Nat) z = 1
theorem gcd3 (a b n : Int) : Int.gcd (Int.gcd a n : Nat) b = Nat.gcd (Nat.gcd a.natAbs b.natAbs) n.natAbs := by
  show Nat.gcd (Nat.gcd a.natAbs n.natAbs) b.natAbs = _
  rw [Nat.gcd_assoc, Nat.gcd_comm n.natAbs, ← Nat.gcd_assoc]
theorem gcd3' (a b n : Int) : Int.gcd (Int.gcd a b : Nat) n = Nat.gcd (Nat.gcd a.natAbs b.natAbs) n.natAbs := rfl
theorem gcd3_pos {a b n : Int} (hn : n ≠ 0) : 0 < ((Int.gcd (Int.gcd a n : Nat) b : Nat) : Int) := by
  rw [gcd3]
  have : 0 < Nat.gcd (Nat.gcd a.natAbs b.natAbs) n.natAbs := Nat.gcd_pos_of_pos_right _ (by omega)
  omega
theorem gcd3_dvd (a b n : Int) : ((Int.gcd (Int.gcd a n : Nat) b : Nat) : Int) ∣ a ∧ ((Int.gcd (Int.gcd a n : Nat) b : Nat) : Int) ∣ b ∧ ((Int.gcd (Int.gcd a n : Nat) b : Nat) : Int) ∣ n := by
  rw [gcd3]
  have h1 := Nat.gcd_dvd_left (Nat.gcd a.natAbs b.natAbs) n.natAbs
  have h2 := Nat.gcd_dvd_right (Nat.gcd a.natAbs b.natAbs) n.natAbs
  refine ⟨?_, ?_, ?_⟩
  · exact Int.ofNat_dvd_left.mpr (Nat.dvd_trans h1 (Nat.gcd_dvd_left _ _))
  · exact Int.ofNat_dvd_left.mpr (Nat.dvd_trans h1 (Nat.gcd_dvd_right _ _))
  · exact Int.ofNat_dvd_left.mpr h2
theorem pt_of {a b n g s : Int} (hn : n ≠ 0) (hg : g = (Int.gcd (Int.gcd a n : Nat) b : Nat)) (hs : s = g ∧ 0 < n ∨ s = -g ∧ n < 0) :
    Pt (a.fdiv s) (b.fdiv s) (n.fdiv s) ∧ a.fdiv s * n = a * n.fdiv s ∧ b.fdiv s * n = b * n.fdiv s ∧ (a.fdiv s).natAbs ≤ a.natAbs ∧ (b.fdiv s).natAbs ≤ b.natAbs ∧ (n.fdiv s).natAbs ≤ n.natAbs := by
  have gp : 0 < g := by rw [hg]; exact gcd3_pos hn
  obtain ⟨d1, d2, d3⟩ := gcd3_dvd a b n
  rw [← hg] at d1 d2 d3
  have s0 : s ≠ 0 := by rcases hs with ⟨h, _⟩ | ⟨h, _⟩ <;> omega
  have dv : ∀ z : Int, g ∣ z → s ∣ z := fun z hz => by
    rcases hs with ⟨h, _⟩ | ⟨h, _⟩ <;> rw [h]
    · exact hz
    · exact Int.neg_dvd.mpr hz
  obtain ⟨x, hx⟩ := dv a d1
  obtain ⟨y, hy⟩ := dv b d2
  obtain ⟨z, hz⟩ := dv n d3
  have ex : a.fdiv s = x := by rw [hx]; exact Int.mul_fdiv_cancel_left x s0
  have ey : b.fdiv s = y := by rw [hy]; exact Int.mul_fdiv_cancel_left y s0
  have ez : n.fdiv s = z := by rw [hz]; exact Int.mul_fdiv_cancel_left z s0
  refine ⟨⟨?_, ?_⟩, ?_, ?_, PySem.natAbs_fdiv_le a s, PySem.natAbs_fdiv_le b s, PySem.natAbs_fdiv_le n s⟩
  · rw [ez]
    rcases hs with ⟨h, hp⟩ | ⟨h, hp⟩
    · rw [hz, h] at hp
      exact Int.pos_of_mul_pos_right hp gp
    · rw [hz, h] at hp
      have : 0 < g * z := by rw [Int.neg_mul] at hp; omega
      exact Int.pos_of_mul_pos_right this gp
  · rw [ex, ey, ez, gcd3']
    rw [gcd3, hx, hy, hz, Int.natAbs_mul, Int.natAbs_mul, Int.natAbs_mul, Nat.gcd_mul_left, Nat.gcd_mul_left] at hg
    have sn : s.natAbs = g.toNat := by rcases hs with ⟨h, _⟩ | ⟨h, _⟩ <;> omega
    have pos : 0 < s.natAbs := by omega
    have q : s.natAbs * Nat.gcd (Nat.gcd x.natAbs y.natAbs) z.natAbs = s.natAbs * 1 := by omega
    exact Nat.eq_of_mul_eq_mul_left pos q
  · rw [ex, ez]
    have h1 : x * n = x * (s * z) := by rw [← hz]
    have h2 : a * z = s * x * z := by rw [← hx]
    rw [h1, h2, ← Int.mul_assoc, Int.mul_comm x s]
  · rw [ey, ez]
    have h1 : y * n = y * (s * z) := by rw [← hz]
    have h2 : b * z = s * y * z := by rw [← hy]
    rw [h1, h2, ← Int.mul_assoc, Int.mul_comm y s]
theorem pt_dvd {x y z x' y' z' : Int} (g : Int.gcd (Int.gcd x y : Nat) z = 1) (e1 : x * z' = x' * z) (e2 : y * z' = y' * z) : z ∣ z' := by
  have d1 : z.natAbs ∣ x.natAbs * z'.natAbs := ⟨x'.natAbs, by rw [← Int.natAbs_mul, e1, Int.natAbs_mul, Nat.mul_comm]⟩
  have d2 : z.natAbs ∣ y.natAbs * z'.natAbs := ⟨y'.natAbs, by rw [← Int.natAbs_mul, e2, Int.natAbs_mul, Nat.mul_comm]⟩
  have d3 : z.natAbs ∣ z.natAbs * z'.natAbs := ⟨z'.natAbs, rfl⟩
  have q := Nat.dvd_gcd (Nat.dvd_gcd d1 d2) d3
  rw [Nat.gcd_mul_right, Nat.gcd_mul_right] at q
  rw [gcd3'] at g
  rw [g, Nat.one_mul] at q
  exact Int.natAbs_dvd_natAbs.mp q
theorem pt_uniq {x y z x' y' z' : Int} (h : Pt x y z) (h' : Pt x' y' z') (e1 : x * z' = x' * z) (e2 : y * z' = y' * z) : x = x' ∧ y = y' ∧ z = z' := by
  have d1 := pt_dvd h.2 e1 e2
  have d2 := pt_dvd h'.2 e1.symm e2.symm
  have ez : z = z' := Int.dvd_antisymm (Int.le_of_lt h.1) (Int.le_of_lt h'.1) d1 d2
  subst ez
  have nz : z ≠ 0 := Int.ne_of_gt h.1
  exact ⟨Int.eq_of_mul_eq_mul_right nz e1, Int.eq_of_mul_eq_mul_right nz e2, rfl⟩
theorem gcd3_bits {a b n : Int} {k : Nat} (hn : n ≠ 0) (h : PySem.Builtin.Int.intBits n ≤ k) : PySem.Builtin.Int.intBits ((Int.gcd (Int.gcd a n : Nat) b : Nat) : Int) ≤ k := by
  refine PySem.intBits_le_of_natAbs ?_ h
  exact Nat.le_of_dvd (by omega) (Int.natAbs_dvd_natAbs.mpr (gcd3_dvd a b n).2.2)
end Cut
namespace Cut
theorem pt_neg {x y z : Int} (h : Pt x y z) : Pt (-x) (-y) z := by
  refine ⟨h.1, ?_⟩
  have g := h.2
  rw [gcd3'] at g ⊢
  rw [Int.natAbs_neg, Int.natAbs_neg]
  exact g
end Cut

/-! TREES: values without addresses. What a slot holds: a tree that stays (val), a list of one's own that may grow (own), the drawing bag. -/
namespace L3
open PySem L2
open PySem.Builtin.Int (intBits)
inductive D where
  | non | bl (b : Bool) | int (i : Int) | str (x : Str) | ty (n : String) | tup (xs : List D) | lst (xs : List D) | scr (ns : List Int) | ktup (xs : List D) | dct (b : Bool) (ks : List (List (List Int))) (ds : List D)
/-- what one's own thing holds: a list's items; a dict's keys (tuples of ints, or tuples of such tuples) and values -/
inductive Cn where
  | l (ds : List D) | d (b : Bool) (t : Option Addr) (ks : List (List (List Int))) (ds : List D)
instance : Coe (List D) Cn := ⟨Cn.l⟩
/-- lists of one's own within a list, or as the values of a dict, of one's own; with where they stand -/
inductive Dp where
  | ll (a : Addr) (as : List Addr) (dss : List (List D)) | dl (b : Bool) (a : Addr) (ks : List (List (List Int))) (as : List Addr) (dss : List (List D))
def Dp.adr : Dp → Addr
  | .ll a _ _ => a
  | .dl _ a _ _ _ => a
def Dp.ins : Dp → List Addr
  | .ll _ as _ => as
  | .dl _ _ _ as _ => as
inductive Sl where
  | no | val (d : D) | own (c : Cn) | bag | new (d : D) | pin (v : V) (d : D) | deep (c : Dp)
/-- the hash of a key of a dict -/
def hashK (b : Bool) (k : List (List Int)) : Int :=
  if b then reduceHash (Builtin.Tuple.tupleHashOf (k.map fun ks => reduceHash (Builtin.Tuple.tupleHashOf (ks.map hashInt)))) else reduceHash (Builtin.Tuple.tupleHashOf ((k.headD []).map hashInt))
def keyD (b : Bool) (k : List (List Int)) : D := if b then .tup (k.map fun ks => .tup (ks.map D.int)) else .tup ((k.headD []).map D.int)
def entK (b : Bool) : List (List (List Int)) → List Addr → List Value → List DictEntry
  | k :: ks, a :: as, u :: us => ⟨hashK b k, .ref a, u⟩ :: entK b ks as us
  | _, _, _ => []
/-- a dict by its one object: keys, where they stand, values -/
def DicO (b : Bool) (a : Addr) (ep : Nat) (ks : List (List (List Int))) (as : List Addr) (vs : List V) : HO := .ext fun h => ks.length ≤ sizeLine ∧ as.length = ks.length ∧ vs.length = ks.length ∧ (a == sysModules) = false ∧
  ∃ us : List Value, Vals vs us ∧ ∃ o es, h.get? a = some o ∧ o.ExactDict ∧ o.data = .dict es ep ∧ es.toList = entK b ks as us ∧ ks.Nodup
mutual
inductive Rep (K : PySem.W.Frag) (B : Hp) : V → D → Prop where
  | non : Rep K B .non .non
  | bl (b : Bool) : Rep K B (.bl b) (.bl b)
  | int (i : Int) : Rep K B (.int i) (.int i)
  | str (x : Str) : Rep K B (.str x) (.str x)
  | ty (n : String) : Rep K B (.ty n) (.ty n)
  | tup {a : Addr} {vs : List V} {ds : List D} (h : B a = some (.tup vs)) (r : Reps K B vs ds) : Rep K B (.ref a) (.tup ds)
  | lst {a : Addr} {vs : List V} {ds : List D} (h : B a = some (.lst vs)) (r : Reps K B vs ds) : Rep K B (.ref a) (.lst ds)
  | scr {a : Addr} {ns : List Int} (h : SqL K B a (ns.map V.int)) : Rep K B (.ref a) (.scr ns)
  | ktup {a : Addr} {vs : List V} {ds : List D} (h : SqT K B a vs) (r : Reps K B vs ds) : Rep K B (.ref a) (.ktup ds)
  | dct {a : Addr} {b : Bool} {ep : Nat} {ks : List (List (List Int))} {as : List Addr} {vs : List V} {ds : List D} (h : B a = some (DicO b a ep ks as vs)) (hk : Reps K B (as.map V.ref) (ks.map (keyD b))) (hb : b = false → ∀ k ∈ ks, ∃ l, k = [l]) (r : Reps K B vs ds) : Rep K B (.ref a) (.dct b ks ds)
inductive Reps (K : PySem.W.Frag) (B : Hp) : List V → List D → Prop where
  | nil : Reps K B [] []
  | cons {v : V} {d : D} {vs : List V} {ds : List D} (h : Rep K B v d) (r : Reps K B vs ds) : Reps K B (v :: vs) (d :: ds)
end
theorem sameT {K : PySem.W.Frag} {H H' : Hp} {a : Addr} {xs : List V} (e : Same H H') (h : SqT K H a xs) : SqT K H' a xs := by
  rcases h with (h | ⟨o, h⟩) | h
  · exact .inl (.inl (e _ _ h))
  · exact .inl (.inr ⟨o, e _ _ h⟩)
  · exact .inr h
section
variable {K : PySem.W.Frag} {B B' : Hp}
mutual
theorem Rep.mono (s : Same B B') : ∀ {v : V} {d : D}, Rep K B v d → Rep K B' v d
  | _, _, .non => .non
  | _, _, .bl b => .bl b
  | _, _, .int i => .int i
  | _, _, .str x => .str x
  | _, _, .ty n => .ty n
  | _, _, .tup h r => .tup (s _ _ h) (Reps.mono s r)
  | _, _, .lst h r => .lst (s _ _ h) (Reps.mono s r)
  | _, _, .scr h => .scr (s.seq h)
  | _, _, .ktup h r => .ktup (sameT s h) (Reps.mono s r)
  | _, _, .dct h hk hb r => .dct (s _ _ h) (Reps.mono s hk) hb (Reps.mono s r)
theorem Reps.mono (s : Same B B') : ∀ {vs : List V} {ds : List D}, Reps K B vs ds → Reps K B' vs ds
  | _, _, .nil => .nil
  | _, _, .cons h r => .cons (Rep.mono s h) (Reps.mono s r)
end
theorem Reps.length : ∀ {vs : List V} {ds : List D}, Reps K B vs ds → vs.length = ds.length
  | _, _, .nil => rfl
  | _, _, .cons _ r => by rw [List.length_cons, List.length_cons, r.length]
theorem Reps.get : ∀ {vs : List V} {ds : List D} {i : Nat} {d : D}, Reps K B vs ds → ds[i]? = some d → ∃ v, vs[i]? = some v ∧ Rep K B v d
  | _, _, _, _, .nil, e => by simp at e
  | _, _, 0, _, .cons h _, e => by simp at e; subst e; exact ⟨_, rfl, h⟩
  | _, _, i + 1, d, .cons _ r, e => by
    obtain ⟨v, h1, h2⟩ := Reps.get (i := i) (d := d) r (by simpa using e)
    exact ⟨v, by simpa using h1, h2⟩
theorem Reps.getV : ∀ {vs : List V} {ds : List D} {i : Nat} {v : V}, Reps K B vs ds → vs[i]? = some v → ∃ d, ds[i]? = some d ∧ Rep K B v d
  | _, _, _, _, .nil, e => by simp at e
  | _, _, 0, _, .cons h _, e => by simp at e; subst e; exact ⟨_, rfl, h⟩
  | _, _, i + 1, v, .cons _ r, e => by
    obtain ⟨d, h1, h2⟩ := Reps.getV (i := i) (v := v) r (by simpa using e)
    exact ⟨d, by simpa using h1, h2⟩
theorem Reps.append : ∀ {vs ws : List V} {ds es : List D}, Reps K B vs ds → Reps K B ws es → Reps K B (vs ++ ws) (ds ++ es)
  | _, _, _, _, .nil, s => s
  | _, _, _, _, .cons h r, s => .cons h (Reps.append r s)
theorem Reps.take : ∀ {vs : List V} {ds : List D} (n : Nat), Reps K B vs ds → Reps K B (vs.take n) (ds.take n)
  | _, _, 0, _ => .nil
  | _, _, _ + 1, .nil => .nil
  | _, _, n + 1, .cons h r => .cons h (Reps.take n r)
theorem Reps.drop : ∀ {vs : List V} {ds : List D} (n : Nat), Reps K B vs ds → Reps K B (vs.drop n) (ds.drop n)
  | _, _, 0, r => r
  | _, _, _ + 1, .nil => .nil
  | _, _, n + 1, .cons _ r => Reps.drop n r
theorem Reps.ints : ∀ (ns : List Int), Reps K B (ns.map V.int) (ns.map D.int)
  | [] => .nil
  | n :: r => .cons (.int n) (Reps.ints r)
end
/-- the drawing bag: two ints, the second below the modulus -/
def Bag (H : Hp) (b : Addr) : Prop := ∃ x y : Int, H b = some (.lst [.int x, .int y]) ∧ 0 ≤ x ∧ 0 ≤ y ∧ y < 2147483647
def MutAt (σ : St) (ρ : List Sl) (i : Nat) (a : Addr) : Prop := (σ[i]? = some (some (.ref a)) ∧ (ρ[i]? = some .bag ∨ ∃ ds, ρ[i]? = some (.own ds))) ∨ ∃ c, ρ[i]? = some (.deep c) ∧ a ∈ c.adr :: c.ins
/-- R: the heap at the entry; W: what the call may change of it (bags); B: what stays; H: now -/
structure Wd (R : Hp) (W : Addr → Prop) (B H : Hp) : Prop where
  fr : ∀ a o, R a = some o → ¬ W a → H a = some o
  bh : Same B H
  wb : ∀ a, W a → B a = none
  wh : ∀ a, W a → Bag H a
  wr : ∀ a, W a → R a ≠ none
open Classical in
/-- what stays, and the lists that were there at the entry and are no bags -/
noncomputable def mixB (R : Hp) (W : Addr → Prop) (B : Hp) : Hp := fun a => match R a with
  | some (.lst vs) => if W a then B a else some (.lst vs)
  | _ => B a
theorem mixB_mono {R : Hp} {W : Addr → Prop} {B B' : Hp} (s : Same B B') : Same (mixB R W B) (mixB R W B') := fun a o h => by
  unfold mixB at h ⊢
  split at h
  · split at h
    · rename_i z; rw [if_pos z]; exact s a o h
    · rename_i z; rw [if_neg z]; exact h
  · exact s a o h
def CnOk (K : PySem.W.Frag) (B H : Hp) (a : Addr) : Cn → Prop
  | .l ds => ∃ vs, H a = some (.lst vs) ∧ Reps K B vs ds
  | .d b t ks ds => ∃ ep as vs, (∀ c, t = some c → c = a) ∧ H a = some (DicO b a ep ks as vs) ∧ Reps K B (as.map V.ref) (ks.map (keyD b)) ∧ (b = false → ∀ k ∈ ks, ∃ l, k = [l]) ∧ Reps K B vs ds
theorem CnOk.mono {K : PySem.W.Frag} {B B' H H' : Hp} {a : Addr} {c : Cn} (h : CnOk K B H a c) (s : Same B B') (e : H' a = H a) : CnOk K B' H' a c := by
  cases c with
  | l ds => obtain ⟨vs, h1, h2⟩ := h; exact ⟨vs, by rw [e]; exact h1, h2.mono s⟩
  | d b t ks ds => obtain ⟨ep, as, vs, h0, h1, h2, h3, h4⟩ := h; exact ⟨ep, as, vs, h0, by rw [e]; exact h1, h2.mono s, h3, h4.mono s⟩
theorem CnOk.ne {K : PySem.W.Frag} {B H : Hp} {a : Addr} {c : Cn} (h : CnOk K B H a c) : H a ≠ none := by
  cases c with
  | l ds => obtain ⟨vs, h1, h2⟩ := h; rw [h1]; simp
  | d b t ks ds => obtain ⟨ep, as, vs, _, h1, _⟩ := h; rw [h1]; simp
/-- lists of one's own, where they stand -/
structure InOk (K : PySem.W.Frag) (B H : Hp) (as : List Addr) (dss : List (List D)) : Prop where
  len : as.length = dss.length
  at_ : ∀ (i : Nat) (a : Addr) (ds : List D), as[i]? = some a → dss[i]? = some ds → ∃ vs, H a = some (.lst vs) ∧ Reps K B vs ds
theorem InOk.mono {K : PySem.W.Frag} {B B' H H' : Hp} {as : List Addr} {dss : List (List D)} (h : InOk K B H as dss) (s : Same B B') (e : ∀ a ∈ as, H' a = H a) : InOk K B' H' as dss :=
  ⟨h.len, fun i a ds h1 h2 => by
    obtain ⟨vs, q1, q2⟩ := h.at_ i a ds h1 h2
    exact ⟨vs, by rw [e a (List.mem_of_getElem? h1)]; exact q1, q2.mono s⟩⟩
theorem InOk.ne {K : PySem.W.Frag} {B H : Hp} {as : List Addr} {dss : List (List D)} (h : InOk K B H as dss) {a : Addr} (m : a ∈ as) : H a ≠ none := by
  obtain ⟨i, hi⟩ := List.getElem?_of_mem m
  have lt : i < as.length := by
    by_cases z : i < as.length
    · exact z
    · rw [List.getElem?_eq_none (by omega)] at hi; cases hi
  obtain ⟨vs, q1, _⟩ := h.at_ i a _ hi (List.getElem?_eq_getElem (by rw [← h.len]; exact lt))
  rw [q1]; simp
def DpO (K : PySem.W.Frag) (B H : Hp) : Dp → Prop
  | .ll a as dss => H a = some (.lst (as.map V.ref)) ∧ InOk K B H as dss
  | .dl b a ks as dss => ∃ ep kas, H a = some (DicO b a ep ks kas (as.map V.ref)) ∧ Reps K B (kas.map V.ref) (ks.map (keyD b)) ∧ (b = false → ∀ k ∈ ks, ∃ l, k = [l]) ∧ InOk K B H as dss
structure DpOk (K : PySem.W.Frag) (R B H : Hp) (c : Dp) : Prop where
  fr : ∀ a ∈ c.adr :: c.ins, R a = none ∧ B a = none
  nd : (c.adr :: c.ins).Nodup
  ok : DpO K B H c
theorem DpO.mono {K : PySem.W.Frag} {B B' H H' : Hp} {c : Dp} (h : DpO K B H c) (s : Same B B') (e : ∀ a ∈ c.adr :: c.ins, H' a = H a) : DpO K B' H' c := by
  cases c with
  | ll a as dss => exact ⟨by rw [e a List.mem_cons_self]; exact h.1, h.2.mono s fun x m => e x (List.mem_cons_of_mem _ m)⟩
  | dl b a ks as dss =>
    obtain ⟨ep, kas, h1, h2, h3, h4⟩ := h
    exact ⟨ep, kas, by rw [e a List.mem_cons_self]; exact h1, h2.mono s, h3, h4.mono s fun x m => e x (List.mem_cons_of_mem _ m)⟩
theorem DpO.ne {K : PySem.W.Frag} {B H : Hp} {c : Dp} (h : DpO K B H c) {a : Addr} (m : a ∈ c.adr :: c.ins) : H a ≠ none := by
  cases c with
  | ll b as dss =>
    rcases List.mem_cons.mp m with e | m
    · rw [show a = b from e, h.1]; simp
    · exact h.2.ne m
  | dl b p ks as dss =>
    obtain ⟨ep, kas, h1, h2, h3, h4⟩ := h
    rcases List.mem_cons.mp m with e | m
    · rw [show a = p from e, h1]; simp
    · exact h4.ne m
def SlOk (K : PySem.W.Frag) (R : Hp) (W : Addr → Prop) (B H : Hp) (o : Option V) : Sl → Prop
  | .no => True
  | .val d => ∃ v, o = some v ∧ Rep K B v d
  | .own c => ∃ a, o = some (.ref a) ∧ R a = none ∧ B a = none ∧ CnOk K B H a c
  | .bag => ∃ b, o = some (.ref b) ∧ (W b ∨ R b = none) ∧ B b = none ∧ Bag H b
  | .new d => ∃ v, o = some v ∧ Rep K (mixB R W B) v d
  | .pin v d => o = some v ∧ Rep K (mixB R W B) v d
  | .deep c => o = some (.ref c.adr) ∧ DpOk K R B H c
structure Ev (K : PySem.W.Frag) (R : Hp) (W : Addr → Prop) (B H : Hp) (σ : St) (ρ : List Sl) : Prop extends Wd R W B H where
  len : σ.length = ρ.length
  ok : ∀ (i : Nat) (k : Sl), ρ[i]? = some k → SlOk K R W B H (σ[i]?).join k
  sep : ∀ (i j : Nat) (a : Addr), MutAt σ ρ i a → MutAt σ ρ j a → i = j
structure Grow (R B B' : Hp) : Prop where
  s : Same B B'
  n : ∀ a o, B' a = some o → B a = some o ∨ R a = none
theorem Grow.refl (R B : Hp) : Grow R B B := ⟨Same.refl _, fun _ _ h => .inl h⟩
theorem Grow.trans {R B B' B'' : Hp} (g : Grow R B B') (h : Grow R B' B'') : Grow R B B'' := ⟨g.s.trans h.s, fun a o e => (h.n a o e).elim (g.n a o) .inr⟩
theorem Wd.fresh {R : Hp} {W : Addr → Prop} {B H : Hp} (w : Wd R W B H) {p : Addr} (h : H p = none) : R p = none ∧ ¬ W p ∧ B p = none := by
  have nw : ¬ W p := fun z => by
    obtain ⟨x, y, e, _⟩ := w.wh p z
    rw [h] at e; cases e
  refine ⟨?_, nw, w.bh.free h⟩
  cases q : R p with
  | none => rfl
  | some o => rw [w.fr p o q nw] at h; cases h
theorem join_some {α : Type} {o : Option (Option α)} {v : α} (h : o.join = some v) : o = some (some v) := by
  cases o with
  | none => cases h
  | some x => exact congrArg some h
section
variable {K : PySem.W.Frag} {R : Hp} {W : Addr → Prop} {B B' H H' : Hp} {σ : St} {ρ : List Sl}
theorem Ev.val (e : Ev K R W B H σ ρ) {i : Nat} {d : D} (h : ρ[i]? = some (.val d)) : ∃ v, σ[i]? = some (some v) ∧ Rep K B v d := by
  obtain ⟨v, h1, h2⟩ := e.ok i _ h
  exact ⟨v, join_some h1, h2⟩
theorem Ev.ownAt (e : Ev K R W B H σ ρ) {i : Nat} {ds : List D} (h : ρ[i]? = some (.own ds)) : ∃ a vs, σ[i]? = some (some (.ref a)) ∧ R a = none ∧ B a = none ∧ H a = some (.lst vs) ∧ Reps K B vs ds := by
  obtain ⟨a, h1, h2, h3, vs, h4, h5⟩ := e.ok i _ h
  exact ⟨a, vs, join_some h1, h2, h3, h4, h5⟩
theorem Ev.ownC (e : Ev K R W B H σ ρ) {i : Nat} {c : Cn} (h : ρ[i]? = some (.own c)) : ∃ a, σ[i]? = some (some (.ref a)) ∧ R a = none ∧ B a = none ∧ CnOk K B H a c := by
  obtain ⟨a, h1, h2⟩ := e.ok i _ h
  exact ⟨a, join_some h1, h2⟩
theorem Ev.bagAt (e : Ev K R W B H σ ρ) {i : Nat} (h : ρ[i]? = some .bag) : ∃ b, σ[i]? = some (some (.ref b)) ∧ (W b ∨ R b = none) ∧ B b = none ∧ Bag H b := by
  obtain ⟨a, h1, h2⟩ := e.ok i _ h
  exact ⟨a, join_some h1, h2⟩
theorem Ev.deepAt (e : Ev K R W B H σ ρ) {i : Nat} {c : Dp} (h : ρ[i]? = some (.deep c)) : σ[i]? = some (some (.ref c.adr)) ∧ DpOk K R B H c := by
  obtain ⟨h1, h2⟩ := e.ok i _ h
  exact ⟨join_some h1, h2⟩
theorem Ev.mutOk (e : Ev K R W B H σ ρ) {i : Nat} {a : Addr} (m : MutAt σ ρ i a) : B a = none ∧ H a ≠ none := by
  rcases m with ⟨h1, h2 | ⟨ds, h2⟩⟩ | ⟨c, h1, h2⟩
  · obtain ⟨b, e1, _, e3, x, y, e4, _⟩ := e.bagAt h2
    rw [h1] at e1; cases e1
    exact ⟨e3, by rw [e4]; simp⟩
  · obtain ⟨b, e1, _, e3, e4⟩ := e.ownC h2
    rw [h1] at e1; cases e1
    exact ⟨e3, e4.ne⟩
  · have q := (e.deepAt h1).2
    exact ⟨(q.fr a h2).2, q.ok.ne h2⟩
theorem mut_in {i : Nat} {a : Addr} (m : MutAt σ ρ i a) (n : ∀ c, ρ[i]? ≠ some (.deep c)) : σ[i]? = some (some (.ref a)) ∧ (ρ[i]? = some .bag ∨ ∃ ds, ρ[i]? = some (.own ds)) := by
  rcases m with m | ⟨c, h, _⟩
  · exact m
  · exact absurd h (n c)
theorem mut_bag {i : Nat} {a : Addr} (m : MutAt σ ρ i a) (h : ρ[i]? = some .bag) : σ[i]? = some (some (.ref a)) := (mut_in m fun c z => by rw [h] at z; cases z).1
/-- another heap, the slots as they are -/
theorem Ev.move (e : Ev K R W B H σ ρ) (w : Wd R W B' H') (s : Same B B') (m : ∀ i a, MutAt σ ρ i a → B' a = none ∧ (ρ[i]? = some .bag → Bag H' a) ∧ (ρ[i]? ≠ some .bag → H' a = H a)) : Ev K R W B' H' σ ρ := by
  refine ⟨w, e.len, fun i k h => ?_, e.sep⟩
  cases k with
  | no => trivial
  | new d =>
    obtain ⟨v, h1, h2⟩ := e.ok i _ h
    exact ⟨v, h1, h2.mono (mixB_mono s)⟩
  | pin v d =>
    obtain ⟨h1, h2⟩ := e.ok i _ h
    exact ⟨h1, h2.mono (mixB_mono s)⟩
  | val d =>
    obtain ⟨v, h1, h2⟩ := e.ok i _ h
    exact ⟨v, h1, h2.mono s⟩
  | own ds =>
    obtain ⟨a, h1, h2, h3, h4⟩ := e.ok i _ h
    obtain ⟨m1, m2, m3⟩ := m i a (.inl ⟨join_some h1, .inr ⟨ds, h⟩⟩)
    exact ⟨a, h1, h2, m1, h4.mono s (m3 (by rw [h]; simp))⟩
  | deep c =>
    obtain ⟨h1, h2⟩ := e.ok i _ h
    have mm : ∀ a ∈ c.adr :: c.ins, B' a = none ∧ H' a = H a := fun a ma => by
      obtain ⟨m1, m2, m3⟩ := m i a (.inr ⟨c, h, ma⟩)
      exact ⟨m1, m3 (by rw [h]; simp)⟩
    exact ⟨h1, fun a ma => ⟨(h2.fr a ma).1, (mm a ma).1⟩, h2.nd, h2.ok.mono s fun a ma => (mm a ma).2⟩
  | bag =>
    obtain ⟨b, h1, h2, h3, h4⟩ := e.ok i _ h
    obtain ⟨m1, m2, m3⟩ := m i b (.inl ⟨join_some h1, .inl h⟩)
    exact ⟨b, h1, h2, m1, m2 h⟩
theorem Bag.upd {H : Hp} {b p : Addr} {o : HO} (h : Bag H b) (n : b ≠ p) : Bag (L2.upd H p o) b := by
  obtain ⟨x, y, e, q⟩ := h
  exact ⟨x, y, by rw [upd_ne n]; exact e, q⟩
theorem Wd.alloc (w : Wd R W B H) {p : Addr} (h : H p = none) (o : HO) : Wd R W (upd B p o) (upd H p o) := by
  obtain ⟨f1, f2, f3⟩ := w.fresh h
  refine ⟨fun a u q nw => ?_, fun a u q => ?_, fun a z => ?_, fun a z => ?_, w.wr⟩
  · rw [upd_ne (by rintro rfl; rw [f1] at q; cases q)]; exact w.fr a u q nw
  · unfold L2.upd at q ⊢
    split
    · rename_i z; rw [if_pos z] at q; exact q
    · rename_i z; rw [if_neg z] at q; exact w.bh a u q
  · rw [upd_ne (by rintro rfl; exact f2 z)]; exact w.wb a z
  · exact (w.wh a z).upd (by rintro rfl; exact f2 z)
theorem Wd.allocH (w : Wd R W B H) {p : Addr} (h : H p = none) (o : HO) : Wd R W B (upd H p o) := by
  obtain ⟨f1, f2, f3⟩ := w.fresh h
  refine ⟨fun a u q nw => ?_, fun a u q => ?_, w.wb, fun a z => ?_, w.wr⟩
  · rw [upd_ne (by rintro rfl; rw [f1] at q; cases q)]; exact w.fr a u q nw
  · rw [upd_ne (by rintro rfl; rw [f3] at q; cases q)]; exact w.bh a u q
  · exact (w.wh a z).upd (by rintro rfl; exact f2 z)
theorem Ev.notNew (e : Ev K R W B H σ ρ) {p : Addr} (h : H p = none) {i : Nat} {a : Addr} (m : MutAt σ ρ i a) : a ≠ p := by
  rintro rfl
  exact (e.mutOk m).2 h
theorem Ev.alloc (e : Ev K R W B H σ ρ) {p : Addr} (h : H p = none) (o : HO) : Ev K R W (upd B p o) (upd H p o) σ ρ := by
  obtain ⟨f1, f2, f3⟩ := e.toWd.fresh h
  refine e.move (e.toWd.alloc h o) (same_new f3 o) fun i a m => ?_
  have n := e.notNew h m
  refine ⟨by rw [upd_ne n]; exact (e.mutOk m).1, fun z => ?_, fun _ => upd_ne n⟩
  obtain ⟨b, e1, _, _, e4⟩ := e.bagAt z
  rw [mut_bag m z] at e1; cases e1
  exact e4.upd n
theorem Ev.allocH (e : Ev K R W B H σ ρ) {p : Addr} (h : H p = none) (o : HO) : Ev K R W B (upd H p o) σ ρ := by
  refine e.move (e.toWd.allocH h o) (Same.refl _) fun i a m => ?_
  have n := e.notNew h m
  refine ⟨(e.mutOk m).1, fun z => ?_, fun _ => upd_ne n⟩
  obtain ⟨b, e1, _, _, e4⟩ := e.bagAt z
  rw [mut_bag m z] at e1; cases e1
  exact e4.upd n
theorem Ev.grow (e : Ev K R W B H σ ρ) {p : Addr} (h : H p = none) (o : HO) : Grow R B (upd B p o) := by
  obtain ⟨f1, f2, f3⟩ := e.toWd.fresh h
  refine ⟨same_new f3 o, fun a u q => ?_⟩
  by_cases z : a = p
  · subst z; exact .inr f1
  · rw [upd_ne z] at q; exact .inl q
/-- a thing of one's own that no slot holds goes over to what stays -/
theorem Ev.freezeO (e : Ev K R W B H σ ρ) {a : Addr} {o : HO} (h : H a = some o) (hr : R a = none) (hb : B a = none) (hm : ∀ i, ¬ MutAt σ ρ i a) : Ev K R W (upd B a o) H σ ρ ∧ Grow R B (upd B a o) := by
  have nw : ¬ W a := fun z => e.wr a z hr
  refine ⟨e.move ⟨e.fr, fun b u q => ?_, fun b z => ?_, e.wh, e.wr⟩ (same_new hb _) (fun i b m => ?_), ⟨same_new hb _, fun b u q => ?_⟩⟩
  · by_cases z : b = a
    · subst z; rw [upd_same] at q; cases q; exact h
    · rw [upd_ne z] at q; exact e.bh b u q
  · rw [upd_ne (by rintro rfl; exact nw z)]; exact e.wb b z
  · have n : b ≠ a := by rintro rfl; exact hm i m
    refine ⟨by rw [upd_ne n]; exact (e.mutOk m).1, fun z => ?_, fun _ => rfl⟩
    obtain ⟨c, e1, _, _, e4⟩ := e.bagAt z
    rw [mut_bag m z] at e1; cases e1
    exact e4
  · by_cases z : b = a
    · subst z; exact .inr hr
    · rw [upd_ne z] at q; exact .inl q
theorem Ev.freeze (e : Ev K R W B H σ ρ) {a : Addr} {vs : List V} (h : H a = some (.lst vs)) (hr : R a = none) (hb : B a = none) (hm : ∀ i, ¬ MutAt σ ρ i a) : Ev K R W (upd B a (.lst vs)) H σ ρ ∧ Grow R B (upd B a (.lst vs)) := e.freezeO h hr hb hm
theorem getElem?_set_some {α : Type} {l : List α} {i j : Nat} {x y : α} (h : (l.set i x)[j]? = some y) : (j = i ∧ y = x) ∨ (j ≠ i ∧ l[j]? = some y) := by
  by_cases e : i = j
  · subst e
    rw [List.getElem?_set_self'] at h
    cases q : l[i]? with
    | none => rw [q] at h; cases h
    | some z => rw [q] at h; exact .inl ⟨rfl, (Option.some.inj h).symm⟩
  · rw [List.getElem?_set_ne e] at h
    exact .inr ⟨fun z => e z.symm, h⟩
def Sl.adrs : Sl → List Addr
  | .deep c => c.adr :: c.ins
  | _ => []
theorem mut_set {i j : Nat} {v : V} {k : Sl} {a : Addr} (m : MutAt (σ.set i (some v)) (ρ.set i k) j a) : (j = i ∧ ((v = .ref a ∧ (k = .bag ∨ ∃ ds, k = .own ds)) ∨ a ∈ k.adrs)) ∨ (j ≠ i ∧ MutAt σ ρ j a) := by
  rcases m with ⟨h1, h2⟩ | ⟨c, h1, h2⟩
  · rcases getElem?_set_some h1 with ⟨e, h1⟩ | ⟨e, h1⟩
    · refine .inl ⟨e, .inl ⟨(Option.some.inj h1).symm, ?_⟩⟩
      rcases h2 with h2 | ⟨ds, h2⟩
      · rcases getElem?_set_some h2 with ⟨_, h2⟩ | ⟨n, _⟩
        · exact .inl h2.symm
        · exact absurd e n
      · rcases getElem?_set_some h2 with ⟨_, h2⟩ | ⟨n, _⟩
        · exact .inr ⟨ds, h2.symm⟩
        · exact absurd e n
    · refine .inr ⟨e, .inl ⟨h1, ?_⟩⟩
      rcases h2 with h2 | ⟨ds, h2⟩
      · rcases getElem?_set_some h2 with ⟨n, _⟩ | ⟨_, h2⟩
        · exact absurd n e
        · exact .inl h2
      · rcases getElem?_set_some h2 with ⟨n, _⟩ | ⟨_, h2⟩
        · exact absurd n e
        · exact .inr ⟨ds, h2⟩
  · rcases getElem?_set_some h1 with ⟨e, h1⟩ | ⟨e, h1⟩
    · exact .inl ⟨e, .inr (by rw [← h1]; exact h2)⟩
    · exact .inr ⟨e, .inr ⟨c, h1, h2⟩⟩
theorem mut_setV {i j : Nat} {v : V} {k : Sl} {a : Addr} (m : MutAt (σ.set i (some v)) (ρ.set i k) j a) (n1 : k ≠ .bag) (n2 : ∀ c, k ≠ .own c) (n3 : k.adrs = []) : j ≠ i ∧ MutAt σ ρ j a := by
  rcases mut_set m with ⟨_, ⟨_, z | ⟨c, z⟩⟩ | z⟩ | m
  · exact absurd z n1
  · exact absurd z (n2 c)
  · rw [n3] at z; cases z
  · exact m
/-- a slot is given a value -/
theorem Ev.set (e : Ev K R W B H σ ρ) (i : Nat) {v : V} {k : Sl} (hk : SlOk K R W B H (some v) k) (hm : ∀ a, v = .ref a → (k = .bag ∨ ∃ ds, k = .own ds) → ∀ j, j ≠ i → ¬ MutAt σ ρ j a) (hd : ∀ a ∈ k.adrs, ∀ j, j ≠ i → ¬ MutAt σ ρ j a := by intro _ z; cases z) : Ev K R W B H (σ.set i (some v)) (ρ.set i k) := by
  refine ⟨e.toWd, by rw [List.length_set, List.length_set]; exact e.len, fun j k' h => ?_, fun x y a hx hy => ?_⟩
  · rcases getElem?_set_some h with ⟨rfl, rfl⟩ | ⟨n, h⟩
    · have lt : j < σ.length := by
        rw [e.len]
        by_cases z : j < ρ.length
        · exact z
        · rw [List.getElem?_eq_none (by rw [List.length_set]; omega)] at h; cases h
      have q : ((σ.set j (some v))[j]?).join = some v := by rw [List.getElem?_set_self lt]; rfl
      rw [q]; exact hk
    · rw [List.getElem?_set_ne (fun z => n z.symm)]
      exact e.ok j k' h
  · rcases mut_set hx with ⟨e1, z1⟩ | ⟨n1, m1⟩
    · rcases mut_set hy with ⟨e2, _⟩ | ⟨n2, m2⟩
      · rw [e1, e2]
      · rcases z1 with ⟨v1, k1⟩ | z1
        · exact absurd m2 (hm a v1 k1 y n2)
        · exact absurd m2 (hd a z1 y n2)
    · rcases mut_set hy with ⟨e2, z2⟩ | ⟨n2, m2⟩
      · rcases z2 with ⟨v2, k2⟩ | z2
        · exact absurd m1 (hm a v2 k2 x n1)
        · exact absurd m1 (hd a z2 x n1)
      · exact e.sep x y a m1 m2
theorem Ev.setV (e : Ev K R W B H σ ρ) (i : Nat) {v : V} {d : D} (r : Rep K B v d) : Ev K R W B H (σ.set i (some v)) (ρ.set i (.val d)) :=
  e.set i ⟨v, rfl, r⟩ fun _ _ z => by rcases z with z | ⟨_, z⟩ <;> cases z
theorem Ev.setO (e : Ev K R W B H σ ρ) (i : Nat) {a : Addr} {vs : List V} {ds : List D} (hr : R a = none) (hb : B a = none) (hh : H a = some (.lst vs)) (r : Reps K B vs ds) (hm : ∀ j, j ≠ i → ¬ MutAt σ ρ j a) : Ev K R W B H (σ.set i (some (.ref a))) (ρ.set i (.own ds)) :=
  e.set i ⟨a, rfl, hr, hb, vs, hh, r⟩ fun b z _ => by cases z; exact hm
theorem Ev.setC (e : Ev K R W B H σ ρ) (i : Nat) {a : Addr} {c : Cn} (hr : R a = none) (hb : B a = none) (hh : CnOk K B H a c) (hm : ∀ j, j ≠ i → ¬ MutAt σ ρ j a) : Ev K R W B H (σ.set i (some (.ref a))) (ρ.set i (.own c)) :=
  e.set i ⟨a, rfl, hr, hb, hh⟩ fun b z _ => by cases z; exact hm
/-- a slot's own list is written: another content -/
theorem Ev.writeC (e : Ev K R W B H σ ρ) {i : Nat} {a : Addr} {c c' : Cn} {o : HO} (h : σ[i]? = some (some (.ref a))) (ho : ρ[i]? = some (.own c)) (r : CnOk K B (upd H a o) a c') : Ev K R W B (upd H a o) σ (ρ.set i (.own c')) := by
  obtain ⟨a', e1, e2, e3, e4⟩ := e.ownC ho
  rw [h] at e1; cases e1
  have nw : ¬ W a := fun z => e.wr a z e2
  have me : MutAt σ ρ i a := .inl ⟨h, .inr ⟨c, ho⟩⟩
  refine ⟨⟨fun b u q z => ?_, fun b u q => ?_, e.wb, fun b z => ?_, e.wr⟩, by rw [List.length_set]; exact e.len, fun j k q => ?_, fun x y b hx hy => ?_⟩
  · rw [upd_ne (by rintro rfl; rw [e2] at q; cases q)]; exact e.fr b u q z
  · rw [upd_ne (by rintro rfl; rw [e3] at q; cases q)]; exact e.bh b u q
  · exact (e.wh b z).upd (by rintro rfl; exact nw z)
  · rcases getElem?_set_some q with ⟨rfl, rfl⟩ | ⟨n, q⟩
    · exact ⟨a, by rw [h]; rfl, e2, e3, r⟩
    · have z := e.ok j k q
      cases k with
      | no => trivial
      | new d => exact z
      | pin v d => exact z
      | val d => exact z
      | own es =>
        obtain ⟨b, z1, z2, z3, z4⟩ := z
        exact ⟨b, z1, z2, z3, z4.mono (Same.refl _) (upd_ne (by rintro rfl; exact n (e.sep j i b (.inl ⟨join_some z1, .inr ⟨es, q⟩⟩) me)))⟩
      | deep d =>
        exact ⟨z.1, z.2.fr, z.2.nd, z.2.ok.mono (Same.refl _) fun b mb => upd_ne (by rintro rfl; exact n (e.sep j i b (.inr ⟨d, q, mb⟩) me))⟩
      | bag =>
        obtain ⟨b, z1, z2, z3, z4⟩ := z
        exact ⟨b, z1, z2, z3, z4.upd (by rintro rfl; exact n (e.sep j i b (.inl ⟨join_some z1, .inl q⟩) me))⟩
  · have back : ∀ x, MutAt σ (ρ.set i (.own c')) x b → MutAt σ ρ x b := fun x m => by
      rcases m with ⟨m1, m2⟩ | ⟨d, m1, m2⟩
      · by_cases z : x = i
        · subst z; exact .inl ⟨m1, .inr ⟨c, ho⟩⟩
        · refine .inl ⟨m1, ?_⟩
          rw [List.getElem?_set_ne (fun w => z w.symm)] at m2
          exact m2
      · rcases getElem?_set_some m1 with ⟨_, z⟩ | ⟨_, m1⟩
        · cases z
        · exact .inr ⟨d, m1, m2⟩
    exact e.sep x y b (back x hx) (back y hy)
theorem Ev.write (e : Ev K R W B H σ ρ) {i : Nat} {a : Addr} {ds ds' : List D} {vs : List V} (h : σ[i]? = some (some (.ref a))) (ho : ρ[i]? = some (.own ds)) (r : Reps K B vs ds') : Ev K R W B (upd H a (.lst vs)) σ (ρ.set i (.own ds')) :=
  e.writeC h ho ⟨vs, upd_same, r⟩
theorem Ev.fz (e : Ev K R W B H σ ρ) {i : Nat} {ds : List D} (ho : ρ[i]? = some (.own ds)) : ∃ B', Ev K R W B' H σ (ρ.set i (.val (.lst ds))) ∧ Grow R B B' := by
  obtain ⟨a, vs, e1, e2, e3, e4, e5⟩ := e.ownAt ho
  have me : MutAt σ ρ i a := .inl ⟨e1, .inr ⟨ds, ho⟩⟩
  have f := (e.setV (d := .non) i (v := .non) .non)
  have f2 := f.freeze e4 e2 e3 (fun j m => by
    obtain ⟨n, m⟩ := mut_setV m (by simp) (by simp) rfl
    exact n (e.sep j i a m me))
  refine ⟨_, ?_, f2.2⟩
  have g := f2.1.setV i (v := .ref a) (d := .lst ds) (.lst upd_same (e5.mono f2.2.s))
  rw [List.set_set, List.set_set] at g
  have q : σ.set i (some (.ref a)) = σ := by
    apply List.ext_getElem?
    intro j
    by_cases z : i = j
    · subst z
      have lt : i < σ.length := by
        by_cases z : i < σ.length
        · exact z
        · rw [List.getElem?_eq_none (by omega)] at e1; cases e1
      rw [List.getElem?_set_self lt, e1]
    · rw [List.getElem?_set_ne z]
  rw [q] at g
  exact g
theorem Ev.fzD (e : Ev K R W B H σ ρ) {i : Nat} {b : Bool} {t : Option Addr} {ks : List (List (List Int))} {ds : List D} (ho : ρ[i]? = some (.own (.d b t ks ds))) : ∃ B', Ev K R W B' H σ (ρ.set i (.val (.dct b ks ds))) ∧ Grow R B B' := by
  obtain ⟨a, e1, e2, e3, ep, as, vs, _, e4, e5, e6, e7⟩ := e.ownC ho
  have me : MutAt σ ρ i a := .inl ⟨e1, .inr ⟨_, ho⟩⟩
  have f := (e.setV (d := .non) i (v := .non) .non)
  have f2 := f.freezeO e4 e2 e3 (fun j m => by
    obtain ⟨n, m⟩ := mut_setV m (by simp) (by simp) rfl
    exact n (e.sep j i a m me))
  refine ⟨_, ?_, f2.2⟩
  have g := f2.1.setV i (v := .ref a) (d := .dct b ks ds) (.dct upd_same (e5.mono f2.2.s) e6 (e7.mono f2.2.s))
  rw [List.set_set, List.set_set] at g
  have q : σ.set i (some (.ref a)) = σ := by
    apply List.ext_getElem?
    intro j
    by_cases z : i = j
    · subst z
      have lt : i < σ.length := by
        by_cases z : i < σ.length
        · exact z
        · rw [List.getElem?_eq_none (by omega)] at e1; cases e1
      rw [List.getElem?_set_self lt, e1]
    · rw [List.getElem?_set_ne z]
  rw [q] at g
  exact g
end
end L3

/-! The readings of the hand layer over trees: what an expression, a test, a statement comes to, without any heap. -/
namespace L3
open PySem L2
open PySem.Builtin.Int (intBits)
abbrev UE := List Sl → (D → Prop) → Prop
abbrev UL := List Sl → (List D → Prop) → Prop
abbrev UT := List Sl → (Bool → Prop) → Prop
inductive Arg where
  | val (d : D) | bag (i : Nat)
abbrev UA := List Sl → (List Arg → Prop) → Prop
structure UEnds where
  nx : List Sl → Prop
  rt : Sl → Prop
  bk : List Sl → Prop := fun _ => False
  ct : List Sl → Prop := fun _ => False
abbrev US := UEnds → List Sl → Prop
abbrev UG := D → List Sl → (List Sl → Prop) → Prop
abbrev UGs := List D → List Sl → (List Sl → Prop) → Prop
section
variable (K : PySem.W.Frag)
def RefE (t : TE) (u : UE) : Prop := ∀ (ρ : List Sl) (k : D → Prop), u ρ k → ∀ (R : Hp) (W : Addr → Prop) (B H : Hp) (σ : St) (Q : VK), Ev K R W B H σ ρ →
  (∀ d v B' H', k d → Ev K R W B' H' σ ρ → Grow R B B' → Rep K B' v d → Q v H') → t σ H Q
/-- a new list that nothing else holds -/
def RefO (t : TE) (u : UL) : Prop := ∀ (ρ : List Sl) (k : List D → Prop), u ρ k → ∀ (R : Hp) (W : Addr → Prop) (B H : Hp) (σ : St) (Q : VK), Ev K R W B H σ ρ →
  (∀ ds a vs B' H', k ds → Ev K R W B' H' σ ρ → Grow R B B' → R a = none → B' a = none → H' a = some (.lst vs) → Reps K B' vs ds → (∀ i, ¬ MutAt σ ρ i a) → Q (.ref a) H') → t σ H Q
def RefT (t : TT) (u : UT) : Prop := ∀ (ρ : List Sl) (k : Bool → Prop), u ρ k → ∀ (R : Hp) (W : Addr → Prop) (B H : Hp) (σ : St) (Q : Bool → Hp → Prop), Ev K R W B H σ ρ →
  (∀ b B' H', k b → Ev K R W B' H' σ ρ → Grow R B B' → Q b H') → t σ H Q
def RefL (t : TA) (u : UL) : Prop := ∀ (ρ : List Sl) (k : List D → Prop), u ρ k → ∀ (R : Hp) (W : Addr → Prop) (B H : Hp) (σ : St) (Q : List V → Hp → Prop), Ev K R W B H σ ρ →
  (∀ ds vs B' H', k ds → Ev K R W B' H' σ ρ → Grow R B B' → Reps K B' vs ds → Q vs H') → t σ H Q
inductive ArgsOk (B : Hp) (σ : St) (ρ : List Sl) : List V → List Arg → Prop where
  | nil : ArgsOk B σ ρ [] []
  | val {v : V} {d : D} {vs : List V} {as : List Arg} (h : Rep K B v d) (r : ArgsOk B σ ρ vs as) : ArgsOk B σ ρ (v :: vs) (.val d :: as)
  | bag {v : V} {i : Nat} {vs : List V} {as : List Arg} (h : σ[i]? = some (some v)) (hb : ρ[i]? = some .bag) (r : ArgsOk B σ ρ vs as) : ArgsOk B σ ρ (v :: vs) (.bag i :: as)
def RefA (t : TA) (u : UA) : Prop := ∀ (ρ : List Sl) (k : List Arg → Prop), u ρ k → ∀ (R : Hp) (W : Addr → Prop) (B H : Hp) (σ : St) (Q : List V → Hp → Prop), Ev K R W B H σ ρ →
  (∀ as vs B' H', k as → Ev K R W B' H' σ ρ → Grow R B B' → ArgsOk K B' σ ρ vs as → Q vs H') → t σ H Q
/-- of what stays: without the lists that were there at the entry -/
def newL (R B : Hp) : Hp := fun a => match B a with
  | some (.lst vs) => if (R a).isNone then some (.lst vs) else none
  | o => o
/-- what a def hands back -/
def ResOk (R : Hp) (B H : Hp) (v : V) : Sl → Prop
  | .no => False
  | .val d => Rep K B v d
  | .own c => ∃ a, v = .ref a ∧ R a = none ∧ B a = none ∧ CnOk K B H a c
  | .bag => ∃ b, v = .ref b ∧ R b = none ∧ B b = none ∧ Bag H b
  | .new d => Rep K (newL R B) v d
  | .pin _ _ => False
  | .deep _ => False
structure Sim (R : Hp) (W : Addr → Prop) (B : Hp) (U : UEnds) (D : Ends) : Prop where
  nx : ∀ ρ σ B' H', U.nx ρ → Ev K R W B' H' σ ρ → Grow R B B' → D.nx σ H'
  bk : ∀ ρ σ B' H', U.bk ρ → Ev K R W B' H' σ ρ → Grow R B B' → D.bk σ H'
  ct : ∀ ρ σ B' H', U.ct ρ → Ev K R W B' H' σ ρ → Grow R B B' → D.ct σ H'
  rt : ∀ r v B' H', U.rt r → Wd R W B' H' → Grow R B B' → ResOk K R B' H' v r → D.rt v H'
def RefS (t : TS) (u : US) : Prop := ∀ (U : UEnds) (ρ : List Sl), u U ρ → ∀ (R : Hp) (W : Addr → Prop) (B H : Hp) (σ : St) (D : Ends), Ev K R W B H σ ρ → Sim K R W B U D → t D σ H
def RefG (g : TG) (u : UG) : Prop := ∀ (d : D) (ρ : List Sl) (k : List Sl → Prop), u d ρ k → ∀ (R : Hp) (W : Addr → Prop) (B H : Hp) (σ : St) (v : V) (Q : St → Hp → Prop), Ev K R W B H σ ρ → Rep K B v d →
  (∀ ρ' σ', k ρ' → Ev K R W B H σ' ρ' → (∀ j a, MutAt σ' ρ' j a → MutAt σ ρ j a) → Q σ' H) → g v σ H Q
def RefGs (g : TGs) (u : UGs) : Prop := ∀ (ds : List D) (ρ : List Sl) (k : List Sl → Prop), u ds ρ k → ∀ (R : Hp) (W : Addr → Prop) (B H : Hp) (σ : St) (vs : List V) (Q : St → Hp → Prop), Ev K R W B H σ ρ → Reps K B vs ds →
  (∀ ρ' σ', k ρ' → Ev K R W B H σ' ρ' → (∀ j a, MutAt σ' ρ' j a → MutAt σ ρ j a) → Q σ' H) → g vs σ H Q
/-- what is walked -/
def ItOk (B : Hp) (J : It) (ds : List D) : Prop := ∀ (H : Hp), Same B H → ∀ i, (i < ds.length → J.go i H) ∧ (ds.length ≤ i → J.stop i H) ∧ ∀ x H', i < ds.length → J.yld i H x H' → H' = H ∧ ∃ d, ds[i]? = some d ∧ Rep K B x d
def RefI (t : TI) (u : UL) : Prop := ∀ (ρ : List Sl) (k : List D → Prop), u ρ k → ∀ (R : Hp) (W : Addr → Prop) (B H : Hp) (σ : St) (Q : It → Hp → Prop), Ev K R W B H σ ρ →
  (∀ ds J B' H', k ds → Ev K R W B' H' σ ρ → Grow R B B' → ItOk K B' J ds → Q J H') → t σ H Q
end
theorem newL_sub {R B : Hp} : Same (newL R B) B := fun a o h => by
  unfold newL at h
  split at h
  · rename_i vs e
    split at h
    · rw [e]; exact h
    · cases h
  · exact h
theorem Sim.grow {K : PySem.W.Frag} {R : Hp} {W : Addr → Prop} {B B' : Hp} {U : UEnds} {D : Ends} (s : Sim K R W B U D) (g : Grow R B B') : Sim K R W B' U D :=
  ⟨fun ρ σ C H h e q => s.nx ρ σ C H h e (g.trans q), fun ρ σ C H h e q => s.bk ρ σ C H h e (g.trans q), fun ρ σ C H h e q => s.ct ρ σ C H h e (g.trans q), fun r v C H h e q z => s.rt r v C H h e (g.trans q) z⟩
section
variable (X : Cx)
def PE3 (e : Expr) (u : UE) : Prop := ∃ t, PE X e t ∧ RefE X.K t u
def PO3 (e : Expr) (u : UL) : Prop := ∃ t, PE X e t ∧ RefO X.K t u
def PT3 (e : Expr) (u : UT) : Prop := ∃ t, PT X e t ∧ RefT X.K t u
def PW3 (e : Expr) (u : UT) : Prop := ∃ t, PW X e t ∧ RefT X.K t u
def PL3 (es : List Expr) (u : UL) : Prop := ∃ t, PA X es t ∧ RefL X.K t u
def PA3 (es : List Expr) (u : UA) : Prop := ∃ t, PA X es t ∧ RefA X.K t u
def PS3 (s : Stmt) (u : US) : Prop := ∃ t, PS X s t ∧ RefS X.K t u
def PSs3 (s : List Stmt) (u : US) : Prop := ∃ t, PSs X s t ∧ RefS X.K t u
def PG3 (e : Expr) (u : UG) : Prop := ∃ t, PG X e t ∧ RefG X.K t u
def PGs3 (e : List Expr) (u : UGs) : Prop := ∃ t, PGs X e t ∧ RefGs X.K t u
def PI3 (tg e : Expr) (u : UL) : Prop := ∃ t, PI X tg e t ∧ RefI X.K t u
end
/-! ### expressions -/
def uVar (i : Nat) : UE := fun ρ k => ∃ d, ρ[i]? = some (.val d) ∧ k d
def uC (d : D) : UE := fun _ k => k d
def uI (C : Int → Int → Prop) (g : Int → Int → D) (ua ub : UE) : UE := fun ρ k => ua ρ fun x => ub ρ fun y => ∃ i j, x = .int i ∧ y = .int j ∧ C i j ∧ k (g i j)
def uI0 (g : Int → Int → D) (ua ub : UE) : UE := fun ρ k => ua ρ fun x => ub ρ fun y => ∃ i j, x = .int i ∧ y = .int j ∧ k (g i j)
def uNeg (ua : UE) : UE := fun ρ k => ua ρ fun x => ∃ i, x = .int i ∧ k (.int (-i))
section
variable {K : PySem.W.Frag} {X : Cx}
theorem refVar (i : Nat) : RefE K (tVar i) (uVar i) := by
  intro ρ k h R W B H σ Q e q
  obtain ⟨d, h, z⟩ := h
  obtain ⟨v, e1, r⟩ := e.val h
  exact ⟨v, e1, q d v B H z e (Grow.refl _ _) r⟩
theorem refC {v : V} {d : D} (h : ∀ B, Rep K B v d) : RefE K (tC v) (uC d) := fun ρ k z R W B H σ Q e q => q d v B H z e (Grow.refl _ _) (h B)
theorem ref2 {ta tb : TE} {ua ub : UE} {r : R2} {f : D → D → (D → Prop) → Prop} (ha : RefE K ta ua) (hb : RefE K tb ub)
    (hr : ∀ (x y : D) (k : D → Prop), f x y k → ∀ (R : Hp) (W : Addr → Prop) (B H : Hp) (σ : St) (ρ : List Sl) (v w : V) (Q : VK), Ev K R W B H σ ρ → Rep K B v x → Rep K B w y → (∀ d v B' H', k d → Ev K R W B' H' σ ρ → Grow R B B' → Rep K B' v d → Q v H') → r v w H Q) :
    RefE K (tOp r ta tb) (fun ρ k => ua ρ fun x => ub ρ fun y => f x y k) := by
  intro ρ k h R W B H σ Q e q
  refine ha ρ _ h R W B H σ _ e fun x v B1 H1 h1 e1 g1 r1 => ?_
  refine hb ρ _ h1 R W B1 H1 σ _ e1 fun y w B2 H2 h2 e2 g2 r2 => ?_
  exact hr x y k h2 R W B2 H2 σ ρ v w Q e2 (r1.mono g2.s) r2 fun d u B3 H3 h3 e3 g3 r3 => q d u B3 H3 h3 e3 ((g1.trans g2).trans g3) r3
theorem ref1 {ta : TE} {ua : UE} {r : V → Hp → VK → Prop} {f : D → (D → Prop) → Prop} (ha : RefE K ta ua)
    (hr : ∀ (x : D) (k : D → Prop), f x k → ∀ (R : Hp) (W : Addr → Prop) (B H : Hp) (σ : St) (ρ : List Sl) (v : V) (Q : VK), Ev K R W B H σ ρ → Rep K B v x → (∀ d v B' H', k d → Ev K R W B' H' σ ρ → Grow R B B' → Rep K B' v d → Q v H') → r v H Q) :
    RefE K (tUn r ta) (fun ρ k => ua ρ fun x => f x k) := by
  intro ρ k h R W B H σ Q e q
  refine ha ρ _ h R W B H σ _ e fun x v B1 H1 h1 e1 g1 r1 => ?_
  exact hr x k h1 R W B1 H1 σ ρ v Q e1 r1 fun d u B3 H3 h3 e3 g3 r3 => q d u B3 H3 h3 e3 (g1.trans g3) r3
theorem Rep.intV {B : Hp} {v : V} {i : Int} (r : Rep K B v (.int i)) : v = .int i := by cases r; rfl
theorem Rep.blV {B : Hp} {v : V} {b : Bool} (r : Rep K B v (.bl b)) : v = .bl b := by cases r; rfl
theorem Rep.nonV {B : Hp} {v : V} (r : Rep K B v .non) : v = .non := by cases r; rfl
theorem Rep.tupV {B : Hp} {v : V} {ds : List D} (r : Rep K B v (.tup ds)) : ∃ a vs, v = .ref a ∧ B a = some (.tup vs) ∧ Reps K B vs ds := by
  cases r with | tup h r => exact ⟨_, _, rfl, h, r⟩
theorem Rep.lstV {B : Hp} {v : V} {ds : List D} (r : Rep K B v (.lst ds)) : ∃ a vs, v = .ref a ∧ B a = some (.lst vs) ∧ Reps K B vs ds := by
  cases r with | lst h r => exact ⟨_, _, rfl, h, r⟩
theorem Rep.scrV {B : Hp} {v : V} {ns : List Int} (r : Rep K B v (.scr ns)) : ∃ a, v = .ref a ∧ SqL K B a (ns.map V.int) := by
  cases r with | scr h => exact ⟨_, rfl, h⟩
theorem refI {C : Int → Int → Prop} {f : Int → Int → V} {g : Int → Int → D} {ta tb : TE} {ua ub : UE} (hg : ∀ B i j, Rep K B (f i j) (g i j)) (ha : RefE K ta ua) (hb : RefE K tb ub) : RefE K (tOp (rI C f) ta tb) (uI C g ua ub) :=
  ref2 ha hb fun x y k h R W B H σ ρ v w Q e rx ry q => by
    obtain ⟨i, j, rfl, rfl, hc, hk⟩ := h
    exact ⟨i, j, rx.intV, ry.intV, hc, q _ _ B H hk e (Grow.refl _ _) (hg B i j)⟩
theorem refI0 {f : Int → Int → V} {g : Int → Int → D} {ta tb : TE} {ua ub : UE} (hg : ∀ B i j, Rep K B (f i j) (g i j)) (ha : RefE K ta ua) (hb : RefE K tb ub) : RefE K (tOp (rI0 f) ta tb) (uI0 g ua ub) :=
  ref2 ha hb fun x y k h R W B H σ ρ v w Q e rx ry q => by
    obtain ⟨i, j, rfl, rfl, hk⟩ := h
    exact ⟨i, j, rx.intV, ry.intV, q _ _ B H hk e (Grow.refl _ _) (hg B i j)⟩
theorem refNeg {ta : TE} {ua : UE} (ha : RefE K ta ua) : RefE K (tUn (rU fun i => .int (-i)) ta) (uNeg ua) :=
  ref1 (f := fun x k => ∃ i, x = .int i ∧ k (.int (-i))) ha fun x k h R W B H σ ρ v Q e rx q => by
    obtain ⟨i, rfl, hk⟩ := h
    exact ⟨i, rx.intV, q _ _ B H hk e (Grow.refl _ _) (.int _)⟩
variable {a b : Expr} {ua ub : UE} {pos : Pos}
theorem v3 (i : Nat) {x : Str} {pos : Pos} (hN : X.N[i]? = some x := by rfl) (hv : Vis X.env.scope x := by first | exact Or.inl rfl | exact Or.inr (Or.inl rfl) | exact Or.inr (Or.inr rfl)) (hd : (x == ("__debug__" : Str)) = false := by decide)
    (hcd : (x == ("__classdict__" : Str)) = false := by decide) : PE3 X (.Name x pos) (uVar i) := ⟨_, pe_var hN hv hd hcd, refVar i⟩
theorem e_int {i j pos} : PE3 X (.Constant (.int i) j pos) (uC (.int i)) := ⟨_, pe_int, refC fun _ => .int _⟩
theorem e_bl {b j pos} : PE3 X (.Constant (.bool b) j pos) (uC (.bl b)) := ⟨_, pe_bl, refC fun _ => .bl _⟩
theorem e_add (ha : PE3 X a ua) (hb : PE3 X b ub) : PE3 X (.BinOp a .Add b pos) (uI0 (fun i j => .int (i + j)) ua ub) := by
  obtain ⟨_, h1, r1⟩ := ha; obtain ⟨_, h2, r2⟩ := hb
  exact ⟨_, pe_op op_add h1 h2, refI0 (fun _ _ _ => .int _) r1 r2⟩
theorem e_sub (ha : PE3 X a ua) (hb : PE3 X b ub) : PE3 X (.BinOp a .Sub b pos) (uI0 (fun i j => .int (i - j)) ua ub) := by
  obtain ⟨_, h1, r1⟩ := ha; obtain ⟨_, h2, r2⟩ := hb
  exact ⟨_, pe_op op_sub h1 h2, refI0 (fun _ _ _ => .int _) r1 r2⟩
theorem e_mul (ha : PE3 X a ua) (hb : PE3 X b ub) : PE3 X (.BinOp a .Mult b pos) (uI CMulB (fun i j => .int (i * j)) ua ub) := by
  obtain ⟨_, h1, r1⟩ := ha; obtain ⟨_, h2, r2⟩ := hb
  exact ⟨_, pe_op op_mulB h1 h2, refI (fun _ _ _ => .int _) r1 r2⟩
theorem e_fdiv (ha : PE3 X a ua) (hb : PE3 X b ub) : PE3 X (.BinOp a .FloorDiv b pos) (uI CDivB (fun i j => .int (i.fdiv j)) ua ub) := by
  obtain ⟨_, h1, r1⟩ := ha; obtain ⟨_, h2, r2⟩ := hb
  exact ⟨_, pe_op op_fdivB h1 h2, refI (fun _ _ _ => .int _) r1 r2⟩
theorem e_mod (ha : PE3 X a ua) (hb : PE3 X b ub) : PE3 X (.BinOp a .Mod b pos) (uI (fun _ j => 0 < j) (fun i j => .int (i % j)) ua ub) := by
  obtain ⟨_, h1, r1⟩ := ha; obtain ⟨_, h2, r2⟩ := hb
  exact ⟨_, pe_op op_mod h1 h2, refI (fun _ _ _ => .int _) r1 r2⟩
theorem e_pow (ha : PE3 X a ua) (hb : PE3 X b ub) : PE3 X (.BinOp a .Pow b pos) (uI CPow (fun i j => .int (i ^ j.toNat)) ua ub) := by
  obtain ⟨_, h1, r1⟩ := ha; obtain ⟨_, h2, r2⟩ := hb
  exact ⟨_, pe_op op_pow h1 h2, refI (fun _ _ _ => .int _) r1 r2⟩
theorem e_neg (ha : PE3 X a ua) : PE3 X (.UnaryOp .USub a pos) (uNeg ua) := by
  obtain ⟨_, h1, r1⟩ := ha
  exact ⟨_, pe_un un_neg h1, refNeg r1⟩
/-- a comparison of ints, as a value -/
def Cm (op : CmpOp) (f : Int → Int → Bool) (X : Cx) : Prop := OpR X (compareOp op) (rI0 fun i j => .bl (f i j))
theorem e_cmp {op : CmpOp} {f : Int → Int → Bool} (ho : Cm op f X) (ha : PE3 X a ua) (hb : PE3 X b ub) (hm : behindInMarks op b = false) : PE3 X (.Compare a [op] [b] pos) (uI0 (fun i j => .bl (f i j)) ua ub) := by
  obtain ⟨_, h1, r1⟩ := ha; obtain ⟨_, h2, r2⟩ := hb
  exact ⟨_, pe_cmpR ho h1 h2 hm, refI0 (fun _ _ _ => .bl _) r1 r2⟩
/-! ### tests -/
def uB (ua : UE) : UT := fun ρ k => ua ρ fun x => ∃ c, x = .bl c ∧ k c
def uNotT (u : UT) : UT := fun ρ k => u ρ fun c => k (!c)
def uAndT (u w : UT) : UT := fun ρ k => u ρ fun c => if c = true then w ρ k else k false
def uOrT (u w : UT) : UT := fun ρ k => u ρ fun c => if c = true then k true else w ρ k
theorem refB {ta : TE} {ua : UE} (ha : RefE K ta ua) : RefT K (tB ta) (uB ua) := by
  intro ρ k h R W B H σ Q e q
  refine ha ρ _ h R W B H σ _ e fun x v B1 H1 h1 e1 g1 r1 => ?_
  obtain ⟨c, rfl, hk⟩ := h1
  exact ⟨c, r1.blV, q c B1 H1 hk e1 g1⟩
theorem t_val {e : Expr} {u : UE} (h : PE3 X e u) (he : ∀ whole, isTrue e X.env whole = (do let v ← whole; standAt e.pos; holding [v] (truthy v)) := by intro _; rfl) : PT3 X e (uB u) := by
  obtain ⟨_, h1, r1⟩ := h
  exact ⟨_, pt_val h1 he, refB r1⟩
theorem t_cmp {op : CmpOp} {f : Int → Int → Bool} (ho : Cm op f X) (ha : PE3 X a ua) (hb : PE3 X b ub) (hm : behindInMarks op b = false) : PT3 X (.Compare a [op] [b] pos) (uB (uI0 (fun i j => .bl (f i j)) ua ub)) := by
  obtain ⟨_, h1, r1⟩ := ha; obtain ⟨_, h2, r2⟩ := hb
  exact ⟨_, pt_cmpR ho h1 h2 hm, refB (refI0 (fun _ _ _ => .bl _) r1 r2)⟩
theorem refNotT {t : TT} {u : UT} (h : RefT K t u) : RefT K (tNot t) (uNotT u) := fun ρ k z R W B H σ Q e q => h ρ _ z R W B H σ _ e fun b B' H' h1 e1 g1 => q (!b) B' H' h1 e1 g1
theorem refAndT {t t' : TT} {u u' : UT} (h : RefT K t u) (h' : RefT K t' u') : RefT K (tAnd t t') (uAndT u u') := by
  intro ρ k z R W B H σ Q e q
  refine h ρ _ z R W B H σ _ e fun b B1 H1 h1 e1 g1 => ?_
  cases b with
  | true =>
    rw [if_pos rfl] at h1 ⊢
    exact h' ρ _ h1 R W B1 H1 σ _ e1 fun c B2 H2 h2 e2 g2 => q c B2 H2 h2 e2 (g1.trans g2)
  | false =>
    rw [if_neg Bool.false_ne_true] at h1 ⊢
    exact q false B1 H1 h1 e1 g1
theorem refOrT {t t' : TT} {u u' : UT} (h : RefT K t u) (h' : RefT K t' u') : RefT K (tOr t t') (uOrT u u') := by
  intro ρ k z R W B H σ Q e q
  refine h ρ _ z R W B H σ _ e fun b B1 H1 h1 e1 g1 => ?_
  cases b with
  | false =>
    rw [if_neg Bool.false_ne_true] at h1 ⊢
    exact h' ρ _ h1 R W B1 H1 σ _ e1 fun c B2 H2 h2 e2 g2 => q c B2 H2 h2 e2 (g1.trans g2)
  | true =>
    rw [if_pos rfl] at h1 ⊢
    exact q true B1 H1 h1 e1 g1
theorem t_not {u : UT} (h : PT3 X a u) : PT3 X (.UnaryOp .Not a pos) (uNotT u) := by
  obtain ⟨_, h1, r1⟩ := h
  exact ⟨_, pt_not h1, refNotT r1⟩
theorem w_and1 {u : UT} (h : PT3 X a u) : PW3 X (.BoolOp .And [a] pos) u := by
  obtain ⟨_, h1, r1⟩ := h
  exact ⟨_, pw_and1 h1, r1⟩
theorem w_or1 {u : UT} (h : PT3 X a u) : PW3 X (.BoolOp .Or [a] pos) u := by
  obtain ⟨_, h1, r1⟩ := h
  exact ⟨_, pw_or1 h1, r1⟩
theorem w_and {rest : List Expr} {u u' : UT} (h : PT3 X a u) (h' : PW3 X (.BoolOp .And (b :: rest) pos) u') : PW3 X (.BoolOp .And (a :: b :: rest) pos) (uAndT u u') := by
  obtain ⟨_, h1, r1⟩ := h; obtain ⟨_, h2, r2⟩ := h'
  exact ⟨_, pw_and h1 h2, refAndT r1 r2⟩
theorem w_or {rest : List Expr} {u u' : UT} (h : PT3 X a u) (h' : PW3 X (.BoolOp .Or (b :: rest) pos) u') : PW3 X (.BoolOp .Or (a :: b :: rest) pos) (uOrT u u') := by
  obtain ⟨_, h1, r1⟩ := h; obtain ⟨_, h2, r2⟩ := h'
  exact ⟨_, pw_or h1 h2, refOrT r1 r2⟩
theorem w_t {u : UT} (h : PW3 X a u) : PT3 X a u := by
  obtain ⟨_, h1, r1⟩ := h
  exact ⟨_, h1.pt, r1⟩
/-! ### and, or, not as values -/
def uAndV (u w : UE) : UE := fun ρ k => u ρ fun x => ∃ c, x = .bl c ∧ if c = true then w ρ k else k (.bl false)
theorem e_one {op : BoolOp} (h : PE3 X a ua) : PE3 X (.BoolOp op [a] pos) ua := by
  obtain ⟨_, h1, r1⟩ := h
  exact ⟨_, pe_one h1, r1⟩
theorem e_and {rest : List Expr} (h : PE3 X a ua) (h' : PE3 X (.BoolOp .And (b :: rest) pos) ub) : PE3 X (.BoolOp .And (a :: b :: rest) pos) (uAndV ua ub) := by
  obtain ⟨_, h1, r1⟩ := h; obtain ⟨_, h2, r2⟩ := h'
  refine ⟨_, pe_and h1 h2, fun ρ k z R W B H σ Q e q => ?_⟩
  refine r1 ρ _ z R W B H σ _ e fun x v B1 H1 z1 e1 g1 s1 => ?_
  obtain ⟨c, rfl, z1⟩ := z1
  refine ⟨c, s1.blV, ?_⟩
  cases c with
  | true =>
    rw [if_pos rfl] at z1 ⊢
    exact r2 ρ _ z1 R W B1 H1 σ _ e1 fun d w B2 H2 h2 e2 g2 s2 => q d w B2 H2 h2 e2 (g1.trans g2) s2
  | false =>
    rw [if_neg Bool.false_ne_true] at z1 ⊢
    exact q _ _ B1 H1 z1 e1 g1 (.bl _)
/-! ### lists of expressions, displays -/
def uNil : UL := fun _ k => k []
def uCons (u : UE) (w : UL) : UL := fun ρ k => u ρ fun d => w ρ fun ds => k (d :: ds)
variable {e : Expr} {es : List Expr} {u : UE} {w : UL}
theorem refNil : RefL K tNil uNil := fun ρ k h R W B H σ Q e q => q [] [] B H h e (Grow.refl _ _) .nil
theorem refCons {te : TE} {t : TA} (h1 : RefE K te u) (h2 : RefL K t w) : RefL K (tCons te t) (uCons u w) := by
  intro ρ k h R W B H σ Q e q
  refine h1 ρ _ h R W B H σ _ e fun d v B1 H1 z1 e1 g1 r1 => ?_
  refine h2 ρ _ z1 R W B1 H1 σ _ e1 fun ds vs B2 H2 z2 e2 g2 r2 => ?_
  exact q _ _ B2 H2 z2 e2 (g1.trans g2) (.cons (r1.mono g2.s) r2)
theorem l_nil : PL3 X [] uNil := ⟨_, pa_nil, refNil⟩
theorem l_cons (ha : PE3 X e u) (hr : PL3 X es w) (hs : starEach (e :: es) X.env = (false, eval e X.env) :: starEach es X.env := by rfl) : PL3 X (e :: es) (uCons u w) := by
  obtain ⟨_, h1, r1⟩ := ha; obtain ⟨_, h2, r2⟩ := hr
  exact ⟨_, pa_cons h1 h2 hs, refCons r1 r2⟩
def uTup (w : UL) : UE := fun ρ k => w ρ fun ds => ds.length ≤ sizeLine ∧ k (.tup ds)
theorem e_tup {x1} (h : PL3 X es w) : PE3 X (.Tuple es x1 pos) (uTup w) := by
  obtain ⟨_, h1, r1⟩ := h
  refine ⟨_, pe_tup h1, fun ρ k z R W B H σ Q e q => ?_⟩
  refine r1 ρ _ z R W B H σ _ e fun ds vs B1 H1 z1 e1 g1 s1 => ?_
  refine ⟨by rw [s1.length]; exact z1.1, fun p hp => ?_⟩
  have g2 := e1.grow hp (.tup vs)
  exact q _ _ _ _ z1.2 (e1.alloc hp _) (g1.trans g2) (.tup upd_same (s1.mono g2.s))
def uLst (w : UL) : UL := fun ρ k => w ρ fun ds => ds.length ≤ sizeLine ∧ k ds
theorem o_lst (h : PL3 X es w) : PO3 X (.List es pos) (uLst w) := by
  obtain ⟨_, h1, r1⟩ := h
  refine ⟨_, pe_lst h1, fun ρ k z R W B H σ Q e q => ?_⟩
  refine r1 ρ _ z R W B H σ _ e fun ds vs B1 H1 z1 e1 g1 s1 => ?_
  refine ⟨by rw [s1.length]; exact z1.1, fun p hp => ?_⟩
  obtain ⟨f1, f2, f3⟩ := e1.toWd.fresh hp
  exact q ds p vs B1 _ z1.2 (e1.allocH hp _) g1 f1 f3 upd_same s1 fun i m => e1.notNew hp m rfl
def uFr (w : UL) : UE := fun ρ k => w ρ fun ds => k (.lst ds)
theorem refFr {t : TE} (h : RefO K t w) : RefE K t (uFr w) := by
  intro ρ k z R W B H σ Q e q
  refine h ρ _ z R W B H σ _ e fun ds a vs B1 H1 z1 e1 g1 hr hb hh rp hm => ?_
  obtain ⟨e2, g2⟩ := e1.freeze hh hr hb hm
  exact q _ _ _ _ z1 e2 (g1.trans g2) (.lst upd_same (rp.mono g2.s))
theorem o_e (h : PO3 X e w) : PE3 X e (uFr w) := by
  obtain ⟨_, h1, r1⟩ := h
  exact ⟨_, h1, refFr r1⟩
/-! ### items -/
def uIx (ua ub : UE) : UE := fun ρ k => ua ρ fun x => ub ρ fun y => ∃ ds i d, (x = .tup ds ∨ x = .lst ds) ∧ y = .int i ∧ atI ds i = some d ∧ k d
theorem atI_reps {B : Hp} {vs : List V} {ds : List D} {i : Int} {d : D} (r : Reps K B vs ds) (h : atI ds i = some d) : ∃ v, atI vs i = some v ∧ Rep K B v d := by
  unfold atI at h ⊢
  rw [r.length]
  cases q : ixN ds.length i with
  | none => rw [q] at h; cases h
  | some j =>
    rw [q] at h
    exact r.get h
theorem e_ix (ha : PE3 X a ua) (hb : PE3 X b ub) (hs : PlainIx b) : PE3 X (.Subscript a b pos) (uIx ua ub) := by
  obtain ⟨_, h1, r1⟩ := ha; obtain ⟨_, h2, r2⟩ := hb
  refine ⟨_, pe_ix ix_any h1 h2 hs, ref2 r1 r2 fun x y k h R W B H σ ρ v w' Q e rx ry q => ?_⟩
  obtain ⟨ds, i, d, hx, rfl, ha, hk⟩ := h
  rcases hx with rfl | rfl
  · obtain ⟨p, vs, rfl, hp, rp⟩ := rx.tupV
    obtain ⟨z, hz, rz⟩ := atI_reps rp ha
    exact ⟨p, vs, i, z, rfl, ry.intV, .inl (e.bh _ _ hp), hz, q d z B H hk e (Grow.refl _ _) rz⟩
  · obtain ⟨p, vs, rfl, hp, rp⟩ := rx.lstV
    obtain ⟨z, hz, rz⟩ := atI_reps rp ha
    exact ⟨p, vs, i, z, rfl, ry.intV, .inr (e.bh _ _ hp), hz, q d z B H hk e (Grow.refl _ _) rz⟩
/-- an item of one's own list in slot n -/
def uIxO (n : Nat) (ub : UE) : UE := fun ρ k => ∃ ds : List D, ρ[n]? = some (.own ds) ∧ ub ρ fun y => ∃ i d, y = .int i ∧ atI ds i = some d ∧ k d
theorem e_ixO (n : Nat) {x : Str} {px : Pos} (hb : PE3 X b ub) (hs : PlainIx b) (hN : X.N[n]? = some x := by rfl) (hv : Vis X.env.scope x := by first | exact Or.inl rfl | exact Or.inr (Or.inl rfl) | exact Or.inr (Or.inr rfl)) (hd : (x == ("__debug__" : Str)) = false := by decide)
    (hcd : (x == ("__classdict__" : Str)) = false := by decide) : PE3 X (.Subscript (.Name x px) b pos) (uIxO n ub) := by
  obtain ⟨_, h2, r2⟩ := hb
  refine ⟨_, pe_ix ix_any (pe_var hN hv hd hcd) h2 hs, fun ρ k z R W B H σ Q e q => ?_⟩
  obtain ⟨ds, ho, z⟩ := z
  obtain ⟨p, vs, e1, e2, e3, e4, e5⟩ := e.ownAt ho
  refine ⟨_, e1, ?_⟩
  refine r2 ρ _ z R W B H σ _ e fun y v B1 H1 z1 f1 g1 s1 => ?_
  obtain ⟨i, d, rfl, ha, hk⟩ := z1
  obtain ⟨p', vs', f1', f2, f3, f4, f5⟩ := f1.ownAt ho
  rw [e1] at f1'; cases f1'
  obtain ⟨z, hz, rz⟩ := atI_reps f5 ha
  exact ⟨p, vs', i, z, rfl, s1.intV, .inr f4, hz, q d z B1 H1 hk f1 g1 rz⟩
end
end L3

/-! Calls, built-in functions, statements, loops, comprehensions, defs, over trees. -/
namespace L3
open PySem L2
open PySem.Builtin.Int (intBits)
/-! ### what a def promises over trees -/
abbrev FS := List Sl → (Sl → Prop) → Prop
def bags : List Sl → Nat
  | [] => 0
  | .bag :: r => bags r + 1
  | _ :: r => bags r
inductive ArgsIn (K : PySem.W.Frag) (W : Addr → Prop) (B : Hp) : List V → List Sl → Prop where
  | nil : ArgsIn K W B [] []
  | val {v : V} {d : D} {vs : List V} {as : List Sl} (h : Rep K B v d) (r : ArgsIn K W B vs as) : ArgsIn K W B (v :: vs) (.val d :: as)
  | bag {b : Addr} {vs : List V} {as : List Sl} (h : W b) (r : ArgsIn K W B vs as) : ArgsIn K W B (.ref b :: vs) (.bag :: as)
structure Exit (K : PySem.W.Frag) (W : Addr → Prop) (B H : Hp) (v : V) (r : Sl) (B' H' : Hp) : Prop where
  wd : Wd H W B' H'
  g : Grow H B B'
  res : ResOk K H B' H' v r
def Con (K : PySem.W.Frag) (n : Nat) (F : FS) : Sp := fun vs H Q _ => ∃ (W : Addr → Prop) (B : Hp) (as : List Sl) (k : Sl → Prop), F as k ∧ as.length = n ∧ Nat.ble (bags as) 1 = true ∧ Same B H ∧ (∀ a, W a → B a = none ∧ Bag H a) ∧ ArgsIn K W B vs as ∧
  ∀ r v B' H', k r → Exit K W B H v r B' H' → Q v H'
section
variable {K : PySem.W.Frag} {R : Hp} {W : Addr → Prop} {B B' H H' : Hp} {σ : St} {ρ : List Sl}
theorem ArgsIn.length : ∀ {vs : List V} {as : List Sl}, ArgsIn K W B vs as → vs.length = as.length
  | _, _, .nil => rfl
  | _, _, .val _ r => by rw [List.length_cons, List.length_cons, r.length]
  | _, _, .bag _ r => by rw [List.length_cons, List.length_cons, r.length]
theorem ArgsIn.get : ∀ {vs : List V} {as : List Sl}, ArgsIn K W B vs as → ∀ (i : Nat) (k : Sl), as[i]? = some k → (∃ v d, vs[i]? = some v ∧ k = .val d ∧ Rep K B v d) ∨ (∃ b, vs[i]? = some (.ref b) ∧ k = .bag ∧ W b)
  | _, _, .nil, i, k, e => by simp at e
  | _, _, .val h r, 0, k, e => by simp at e; subst e; exact .inl ⟨_, _, rfl, rfl, h⟩
  | _, _, .val h r, i + 1, k, e => by simpa using r.get i k (by simpa using e)
  | _, _, .bag h r, 0, k, e => by simp at e; subst e; exact .inr ⟨_, rfl, rfl, h⟩
  | _, _, .bag h r, i + 1, k, e => by simpa using r.get i k (by simpa using e)
theorem bags_none : ∀ {as : List Sl} {i : Nat}, bags as = 0 → as[i]? ≠ some .bag
  | [], i, _ => by simp
  | .bag :: r, i, h => by simp [bags] at h
  | .no :: r, 0, h => by simp
  | .no :: r, i + 1, h => by simpa using bags_none (as := r) (i := i) h
  | .val d :: r, 0, h => by simp
  | .val d :: r, i + 1, h => by simpa using bags_none (as := r) (i := i) h
  | .new d :: r, 0, h => by simp
  | .new d :: r, i + 1, h => by simpa using bags_none (as := r) (i := i) h
  | .pin v d :: r, 0, h => by simp
  | .pin v d :: r, i + 1, h => by simpa using bags_none (as := r) (i := i) h
  | .own d :: r, 0, h => by simp
  | .own d :: r, i + 1, h => by simpa using bags_none (as := r) (i := i) h
  | .deep d :: r, 0, h => by simp
  | .deep d :: r, i + 1, h => by simpa using bags_none (as := r) (i := i) h
theorem bags_one : ∀ {as : List Sl} {i j : Nat}, bags as ≤ 1 → as[i]? = some .bag → as[j]? = some .bag → i = j
  | [], i, j, _, e, _ => by simp at e
  | .bag :: r, 0, 0, _, _, _ => rfl
  | .bag :: r, 0, j + 1, h, _, e => absurd (by simpa using e) (bags_none (as := r) (i := j) (by simp [bags] at h; exact h))
  | .bag :: r, i + 1, _, h, e, _ => absurd (by simpa using e) (bags_none (as := r) (i := i) (by simp [bags] at h; exact h))
  | .no :: r, 0, _, _, e, _ => by simp at e
  | .no :: r, i + 1, 0, _, _, e => by simp at e
  | .no :: r, i + 1, j + 1, h, e, e' => by rw [bags_one (as := r) (i := i) (j := j) h (by simpa using e) (by simpa using e')]
  | .val d :: r, 0, _, _, e, _ => by simp at e
  | .val d :: r, i + 1, 0, _, _, e => by simp at e
  | .val d :: r, i + 1, j + 1, h, e, e' => by rw [bags_one (as := r) (i := i) (j := j) h (by simpa using e) (by simpa using e')]
  | .new d :: r, 0, _, _, e, _ => by simp at e
  | .new d :: r, i + 1, 0, _, _, e => by simp at e
  | .new d :: r, i + 1, j + 1, h, e, e' => by rw [bags_one (as := r) (i := i) (j := j) h (by simpa using e) (by simpa using e')]
  | .pin v d :: r, 0, _, _, e, _ => by simp at e
  | .pin v d :: r, i + 1, 0, _, _, e => by simp at e
  | .pin v d :: r, i + 1, j + 1, h, e, e' => by rw [bags_one (as := r) (i := i) (j := j) h (by simpa using e) (by simpa using e')]
  | .own d :: r, 0, _, _, e, _ => by simp at e
  | .own d :: r, i + 1, 0, _, _, e => by simp at e
  | .own d :: r, i + 1, j + 1, h, e, e' => by rw [bags_one (as := r) (i := i) (j := j) h (by simpa using e) (by simpa using e')]
  | .deep d :: r, 0, _, _, e, _ => by simp at e
  | .deep d :: r, i + 1, 0, _, _, e => by simp at e
  | .deep d :: r, i + 1, j + 1, h, e, e' => by rw [bags_one (as := r) (i := i) (j := j) h (by simpa using e) (by simpa using e')]
/-- behind a call: what the caller holds -/
theorem Ev.after {W' : Addr → Prop} (e : Ev K R W B H σ ρ) (hW : ∀ a, W' a → ∃ i : Nat, σ[i]? = some (some (.ref a)) ∧ ρ[i]? = some .bag) (wd : Wd H W' B' H') (g : Grow H B B') : Ev K R W B' H' σ ρ ∧ Grow R B B' := by
  have nb : ∀ a, B a = none → H a ≠ none → B' a = none := fun a h1 h2 => by
    cases q : B' a with
    | none => rfl
    | some o =>
      rcases g.n a o q with z | z
      · rw [h1] at z; cases z
      · exact absurd z h2
  have st : ∀ a, ¬ W' a → H a ≠ none → H' a = H a := fun a h1 h2 => by
    cases q : H a with
    | none => exact absurd q h2
    | some o => exact wd.fr a o q h1
  have bagS : ∀ a, Bag H a → Bag H' a := fun a h => by
    by_cases z : W' a
    · exact wd.wh a z
    · obtain ⟨x, y, e1, q⟩ := h
      exact ⟨x, y, by rw [st a z (by rw [e1]; simp)]; exact e1, q⟩
  have bagN : ∀ a, Bag H a → H a ≠ none := fun a ⟨x, y, e1, _⟩ => by rw [e1]; simp
  refine ⟨e.move ⟨fun a o h nw => ?_, wd.bh, fun a h => nb a (e.wb a h) (bagN a (e.wh a h)), fun a h => bagS a (e.wh a h), e.wr⟩ g.s (fun i a m => ⟨nb a (e.mutOk m).1 (e.mutOk m).2, fun z => ?_, fun z => ?_⟩), ⟨g.s, fun a o h => ?_⟩⟩
  · have h1 := e.fr a o h nw
    refine wd.fr a o h1 fun z => ?_
    obtain ⟨i, z1, z2⟩ := hW a z
    obtain ⟨b, y1, y2, _⟩ := e.bagAt z2
    rw [z1] at y1; cases y1
    rcases y2 with y2 | y2
    · exact nw y2
    · rw [y2] at h; cases h
  · obtain ⟨b, y1, _, _, y4⟩ := e.bagAt z
    rw [mut_bag m z] at y1; cases y1
    exact bagS _ y4
  · refine st a (fun q => ?_) (e.mutOk m).2
    obtain ⟨j, z1, z2⟩ := hW a q
    have := e.sep i j a m (.inl ⟨z1, .inl z2⟩)
    subst this
    exact z z2
  · rcases g.n a o h with z | z
    · exact .inl z
    · exact .inr (e.toWd.fresh z).1
/-- a def's own state at its entry -/
theorem Ev.start {N : List Str} {vs : List V} {as : List Sl} (hb : bags as ≤ 1) (sB : Same B H) (hw : ∀ a, W a → B a = none ∧ Bag H a) (ai : ArgsIn K W B vs as) : Ev K H W B H (L2.start N vs) (as ++ List.replicate (N.length - as.length) .no) := by
  have hl := ai.length
  have wd : Wd H W B H := ⟨fun _ _ h _ => h, sB, fun a h => (hw a h).1, fun a h => (hw a h).2, fun a h => by obtain ⟨x, y, q, _⟩ := (hw a h).2; rw [q]; simp⟩
  have lo : ∀ i k, as[i]? = some k → (L2.start N vs)[i]? = (vs[i]?).map some := fun i k h => by
    have lt : i < as.length := by
      by_cases z : i < as.length
      · exact z
      · rw [List.getElem?_eq_none (by omega)] at h; cases h
    unfold L2.start
    rw [List.getElem?_append_left (by rw [List.length_map]; omega), List.getElem?_map]
  have cs : ∀ (i : Nat) (k : Sl), (as ++ List.replicate (N.length - as.length) Sl.no)[i]? = some k → as[i]? = some k ∨ k = Sl.no := fun i k h => by
    by_cases z : i < as.length
    · rw [List.getElem?_append_left z] at h; exact .inl h
    · rw [List.getElem?_append_right (by omega)] at h
      rw [List.getElem?_replicate] at h
      split at h
      · exact .inr (Option.some.inj h).symm
      · cases h
  have bg : ∀ i : Nat, (as ++ List.replicate (N.length - as.length) Sl.no)[i]? = some Sl.bag → as[i]? = some Sl.bag := fun i h => by
    rcases cs i _ h with h | h
    · exact h
    · cases h
  refine ⟨wd, by unfold L2.start; simp [hl], fun i k h => ?_, fun i j a m1 m2 => ?_⟩
  · rcases cs i k h with h | rfl
    · rw [lo i k h]
      rcases ai.get i k h with ⟨v, d, h1, rfl, r⟩ | ⟨b, h1, rfl, r⟩
      · rw [h1]; exact ⟨v, rfl, r⟩
      · rw [h1]; exact ⟨b, rfl, .inl r, (hw b r).1, (hw b r).2⟩
    · trivial
  · have one : ∀ i, MutAt (L2.start N vs) (as ++ List.replicate (N.length - as.length) Sl.no) i a → as[i]? = some .bag := fun i m => by
      rcases m with ⟨_, z | ⟨ds, z⟩⟩ | ⟨c, z, _⟩
      · exact bg i z
      · rcases cs i _ z with z | z
        · rcases ai.get i _ z with ⟨v, d, _, q, _⟩ | ⟨b, _, q, _⟩ <;> cases q
        · cases z
      · rcases cs i _ z with z | z
        · rcases ai.get i _ z with ⟨v, d, _, q, _⟩ | ⟨b, _, q, _⟩ <;> cases q
        · cases z
    exact bags_one hb (one i m1) (one j m2)
/-- THE RULE for a def over trees -/
theorem def3 {P : Program} {w : World} {mg : Str → Option Value} {base : Heap} {x : Str} {st : Stmt} {N ps : List Str} {lv n : Nat} {F : FS} (Fd : Fnd K mg x st ps) (S : FnScope N ps (defScope st)) (hn : ps.length = n)
    (hbody : ∀ (f : Addr) (cdv : Value) (A : Around) (outer : List PySem.Env) (s : Shared) (H : Hp) (E : XK), Room lv (A.deeper (PyProof.Rows.envOfC x (defScope st) s.heap.objs.size f cdv)) →
      ∃ u, PSs3 (cxOf CX0 P w K mg base N x (defScope st) f cdv A outer s H E).nox (defBody st) u ∧ ∀ as k, as.length = n → F as k → u { nx := fun _ => k (.val .non), rt := k } (as ++ List.replicate (N.length - n) .no)) : Cal P w K mg base x ps (lv + 1) (Con K n F) := by
  refine Fd.ok S (fun vs H Q E h => ?_) (fun f cdv A outer s H vs Q E hr h => ?_)
  · obtain ⟨W, B, as, k, _, hl, _, _, _, ai, _⟩ := h
    rw [ai.length, hl, hn]
  · obtain ⟨W, B, as, k, hF, hl, hb, sB, hw, ai, q⟩ := h
    obtain ⟨u, ⟨t, ht, rt⟩, hu⟩ := hbody f cdv A outer s H E hr
    have ev := Ev.start (N := N) (Nat.le_of_ble_eq_true hb) sB hw ai
    rw [hl] at ev
    refine ⟨t, ht, rt _ _ (hu as k hl hF) H W B H (L2.start N vs) _ ev ⟨fun ρ σ B' H' h e g => ?_, fun _ _ _ _ h => h.elim, fun _ _ _ _ h => h.elim, fun r v B' H' h e g z => q r v B' H' h ⟨e, g, z⟩⟩⟩
    exact q _ _ B' H' h ⟨e.toWd, g, .non⟩
end
/-! ### calls -/
def Arg.sl : Arg → Sl
  | .val d => .val d
  | .bag _ => .bag
def fzR : Sl → (D → Prop) → Prop
  | .val d, k => k d
  | .own (.l ds), k => k (.lst ds)
  | .new d, k => k d
  | _, _ => False
def uaNil : UA := fun _ k => k []
def uaV (u : UE) (w : UA) : UA := fun ρ k => u ρ fun d => w ρ fun as => k (.val d :: as)
def uaB (i : Nat) (w : UA) : UA := fun ρ k => ρ[i]? = some .bag ∧ w ρ fun as => k (.bag i :: as)
def sh (as : List Arg) (n : Nat) : Bool := Nat.beq as.length n && Nat.ble (bags (as.map Arg.sl)) 1
def uCall (n : Nat) (F : FS) (w : UA) : UE := fun ρ k => w ρ fun as => sh as n = true ∧ F (as.map Arg.sl) fun r => fzR r k
section
variable {K : PySem.W.Frag} {X : Cx} {e : Expr} {es : List Expr} {u : UE} {w : UA} {pos p : Pos} {n : Nat} {F : FS}
theorem a_nil : PA3 X [] uaNil := ⟨_, pa_nil, fun ρ k h R W B H σ Q e q => q [] [] B H h e (Grow.refl _ _) .nil⟩
theorem a_val (ha : PE3 X e u) (hr : PA3 X es w) (hs : starEach (e :: es) X.env = (false, eval e X.env) :: starEach es X.env := by rfl) : PA3 X (e :: es) (uaV u w) := by
  obtain ⟨_, h1, r1⟩ := ha; obtain ⟨_, h2, r2⟩ := hr
  refine ⟨_, pa_cons h1 h2 hs, fun ρ k h R W B H σ Q e q => ?_⟩
  refine r1 ρ _ h R W B H σ _ e fun d v B1 H1 z1 e1 g1 s1 => ?_
  refine r2 ρ _ z1 R W B1 H1 σ _ e1 fun as vs B2 H2 z2 e2 g2 s2 => ?_
  exact q _ _ B2 H2 z2 e2 (g1.trans g2) (.val (s1.mono g2.s) s2)
theorem a_bag (i : Nat) {x : Str} {px : Pos} (hr : PA3 X es w) (hN : X.N[i]? = some x := by rfl) (hv : Vis X.env.scope x := by first | exact Or.inl rfl | exact Or.inr (Or.inl rfl) | exact Or.inr (Or.inr rfl)) (hd : (x == ("__debug__" : Str)) = false := by decide)
    (hcd : (x == ("__classdict__" : Str)) = false := by decide) (hs : starEach (.Name x px :: es) X.env = (false, eval (.Name x px) X.env) :: starEach es X.env := by rfl) : PA3 X (.Name x px :: es) (uaB i w) := by
  obtain ⟨_, h2, r2⟩ := hr
  refine ⟨_, pa_cons (pe_var hN hv hd hcd) h2 hs, fun ρ k h R W B H σ Q e q => ?_⟩
  obtain ⟨hb, h⟩ := h
  obtain ⟨b, b1, b2⟩ := e.bagAt hb
  refine ⟨_, b1, ?_⟩
  refine r2 ρ _ h R W B H σ _ e fun as vs B2 H2 z2 e2 g2 s2 => ?_
  exact q _ _ B2 H2 z2 e2 g2 (.bag b1 hb s2)
theorem ArgsOk.toIn {B : Hp} {σ : St} {ρ : List Sl} {W : Addr → Prop} {R H : Hp} {W0 : Addr → Prop} (e : Ev K R W0 B H σ ρ) : ∀ {vs : List V} {as : List Arg}, ArgsOk K B σ ρ vs as → (∀ i b, Arg.bag i ∈ as → σ[i]? = some (some (.ref b)) → W b) → ArgsIn K W B vs (as.map Arg.sl)
  | _, _, .nil, _ => .nil
  | _, _, .val h r, hw => .val h (ArgsOk.toIn e r fun i b m => hw i b (List.mem_cons_of_mem _ m))
  | _, _, .bag h hb r, hw => by
    obtain ⟨b, b1, _⟩ := e.bagAt hb
    rw [h] at b1; cases b1
    exact .bag (hw _ b List.mem_cons_self h) (ArgsOk.toIn e r fun i c m => hw i c (List.mem_cons_of_mem _ m))
theorem ArgsOk.bagIn {B : Hp} {σ : St} {ρ : List Sl} : ∀ {vs : List V} {as : List Arg} {i : Nat}, ArgsOk K B σ ρ vs as → Arg.bag i ∈ as → ρ[i]? = some .bag
  | _, _, _, .nil, m => by simp at m
  | _, _, _, .val h r, m => by
    rcases List.mem_cons.mp m with m | m
    · cases m
    · exact r.bagIn m
  | _, _, _, .bag h hb r, m => by
    rcases List.mem_cons.mp m with m | m
    · cases m; exact hb
    · exact r.bagIn m
/-- the call as such: whatever comes back -/
theorem call_ok {R : Hp} {W : Addr → Prop} {B H : Hp} {σ : St} {ρ : List Sl} {vs : List V} {as : List Arg} {k : Sl → Prop} {Q : VK} {E : XK} (e : Ev K R W B H σ ρ) (ok : ArgsOk K B σ ρ vs as) (hs : sh as n = true) (hF : F (as.map Arg.sl) k)
    (q : ∀ r v B' H', k r → Ev K R W B' H' σ ρ → Grow R B B' → ResOk K H B' H' v r → Q v H') : Con K n F vs H Q E := by
  rw [sh, Bool.and_eq_true] at hs
  have h1 : as.length = n := Nat.eq_of_beq_eq_true hs.1
  have hW : ∀ a, (∃ i : Nat, Arg.bag i ∈ as ∧ σ[i]? = some (some (.ref a))) → ∃ i : Nat, σ[i]? = some (some (.ref a)) ∧ ρ[i]? = some .bag := fun a ⟨i, m, z⟩ => ⟨i, z, ok.bagIn m⟩
  refine ⟨fun a => ∃ i : Nat, Arg.bag i ∈ as ∧ σ[i]? = some (some (.ref a)), B, as.map Arg.sl, k, hF, by rw [List.length_map]; exact h1, hs.2, e.bh, fun a h => ?_, ok.toIn e fun i b m z => ⟨i, m, z⟩, fun r v B' H' hk ex => ?_⟩
  · obtain ⟨i, z1, z2⟩ := hW a h
    obtain ⟨b, b1, _, b3, b4⟩ := e.bagAt z2
    rw [z1] at b1; cases b1
    exact ⟨b3, b4⟩
  · obtain ⟨e2, g2⟩ := e.after hW ex.wd ex.g
    exact q r v B' H' hk e2 g2 ex.res
theorem e_call {x : Str} {ps : List Str} {j lv : Nat} (c : Cal X.prog X.w X.K X.mg X.base x ps j (Con X.K n F)) (hr : Room lv X.A) (hg : Gl X x) (ha : PA3 X (e :: es) w) (hjk : j ≤ lv := by decide)
    (hdb : (x == ("__debug__" : Str)) = false := by decide) (he : starEach (e :: es) X.env = (false, eval e X.env) :: starEach es X.env := by rfl) (hpl : (backTo pos (starEach es X.env)).any (·.1) = false := by rfl) :
    PE3 X (.Call (.Name x p) (e :: es) [] pos) (uCall n F w) := by
  obtain ⟨_, h1, r1⟩ := ha
  refine ⟨_, pe_cal c hr hg h1 hjk hdb he hpl, fun ρ k h R W B H σ Q e q => ?_⟩
  refine r1 ρ _ h R W B H σ _ e fun as vs B1 H1 z1 e1 g1 s1 => ?_
  rw [List.append_nil]
  refine call_ok e1 s1 z1.1 z1.2 fun r v B2 H2 hk e2 g2 res => ?_
  cases r with
  | no => exact hk.elim
  | bag => exact hk.elim
  | pin v d => exact hk.elim
  | deep c => exact hk.elim
  | val d => exact q d v B2 H2 hk e2 (g1.trans g2) res
  | new d => exact q d v B2 H2 hk e2 (g1.trans g2) (Rep.mono newL_sub res)
  | own c =>
    cases c with
    | d _ _ _ _ => exact hk.elim
    | l ds =>
    obtain ⟨a, rfl, f1, f2, us, f3, f4⟩ := res
    obtain ⟨e3, g3⟩ := e2.freeze f3 (e1.toWd.fresh f1).1 f2 fun i m => absurd f1 (by
      have m1 : MutAt σ ρ i a := m
      exact (e1.mutOk m1).2)
    exact q _ _ _ _ hk e3 ((g1.trans g2).trans g3) (.lst upd_same (f4.mono g3.s))
end
/-! ### built-in functions -/
def lenD : D → Option Nat
  | .tup ds => some ds.length
  | .lst ds => some ds.length
  | .scr ns => some ns.length
  | _ => none
def uLen (u : UE) : UE := fun ρ k => u ρ fun x => ∃ n, lenD x = some n ∧ k (.int n)
def uLenO (i : Nat) : UE := fun ρ k => ∃ ds : List D, ρ[i]? = some (.own ds) ∧ k (.int ds.length)
def uAbs (u : UE) : UE := fun ρ k => u ρ fun x => ∃ i, x = .int i ∧ k (.int (if i < 0 then -i else i))
section
variable {K : PySem.W.Frag} {X : Cx} {e : Expr} {es : List Expr} {u : UE} {pos p : Pos} {n : Nat}
/-- a built-in function of one value -/
theorem refCB1 {te : TE} {r : List V → Hp → VK → Prop} {f : D → (D → Prop) → Prop} (ha : RefE K te u)
    (hr : ∀ (x : D) (k : D → Prop), f x k → ∀ (R : Hp) (W : Addr → Prop) (B H : Hp) (σ : St) (ρ : List Sl) (v : V) (Q : VK), Ev K R W B H σ ρ → Rep K B v x → (∀ d v B' H', k d → Ev K R W B' H' σ ρ → Grow R B B' → Rep K B' v d → Q v H') → r [v] H Q) :
    RefE K (tCB r (tCons te tNil)) (fun ρ k => u ρ fun x => f x k) := by
  intro ρ k h R W B H σ Q e q
  refine ha ρ _ h R W B H σ _ e fun x v B1 H1 h1 e1 g1 r1 => ?_
  exact hr x k h1 R W B1 H1 σ ρ v Q e1 r1 fun d u B3 H3 h3 e3 g3 r3 => q d u B3 H3 h3 e3 (g1.trans g3) r3
theorem e_len (ha : PE3 X e u) (hg : Gl X "len") (hm : X.mg "len" = none) (hs : starEach [e] X.env = (false, eval e X.env) :: starEach [] X.env := by rfl) : PE3 X (.Call (.Name "len" p) [e] [] pos) (uLen u) := by
  obtain ⟨_, h1, r1⟩ := ha
  refine ⟨_, pe_callB call_len_seq hg hm PySem.boot_len (pa_cons h1 pa_nil hs) (by decide) (by decide) hs, refCB1 (f := fun x k => ∃ n, lenD x = some n ∧ k (.int n)) r1 fun x k h R W B H σ ρ v Q e rx q => ?_⟩
  obtain ⟨n, hn, hk⟩ := h
  cases x <;> first | (cases hn; done) | skip
  · obtain ⟨a, vs, rfl, ha, r⟩ := rx.tupV
    cases hn
    rw [← r.length] at hk
    exact ⟨a, vs, rfl, .inr (SqT.of (e.bh _ _ ha)), q _ _ B H hk e (Grow.refl _ _) (.int _)⟩
  · obtain ⟨a, vs, rfl, ha, r⟩ := rx.lstV
    cases hn
    rw [← r.length] at hk
    exact ⟨a, vs, rfl, .inl (SqL.of (e.bh _ _ ha)), q _ _ B H hk e (Grow.refl _ _) (.int _)⟩
  · obtain ⟨a, rfl, ha⟩ := rx.scrV
    cases hn
    refine ⟨a, _, rfl, .inl (e.bh.seq ha), ?_⟩
    rw [List.length_map]
    exact q _ _ B H hk e (Grow.refl _ _) (.int _)
theorem e_lenO (i : Nat) {x : Str} {px : Pos} (hg : Gl X "len") (hm : X.mg "len" = none) (hN : X.N[i]? = some x := by rfl) (hv : Vis X.env.scope x := by first | exact Or.inl rfl | exact Or.inr (Or.inl rfl) | exact Or.inr (Or.inr rfl)) (hd : (x == ("__debug__" : Str)) = false := by decide)
    (hcd : (x == ("__classdict__" : Str)) = false := by decide) (hs : starEach [.Name x px] X.env = (false, eval (.Name x px) X.env) :: starEach [] X.env := by rfl) : PE3 X (.Call (.Name "len" p) [.Name x px] [] pos) (uLenO i) := by
  refine ⟨_, pe_callB call_len_seq hg hm PySem.boot_len (pa_cons (pe_var hN hv hd hcd) pa_nil hs) (by decide) (by decide) hs, fun ρ k h R W B H σ Q e q => ?_⟩
  obtain ⟨ds, ho, hk⟩ := h
  obtain ⟨a, vs, e1, e2, e3, e4, e5⟩ := e.ownAt ho
  rw [← e5.length] at hk
  exact ⟨_, e1, a, vs, rfl, .inl (SqL.of e4), q _ _ B H hk e (Grow.refl _ _) (.int _)⟩
theorem e_abs (ha : PE3 X e u) (hg : Gl X "abs") (hm : X.mg "abs" = none) (hs : starEach [e] X.env = (false, eval e X.env) :: starEach [] X.env := by rfl) : PE3 X (.Call (.Name "abs" p) [e] [] pos) (uAbs u) := by
  obtain ⟨_, h1, r1⟩ := ha
  refine ⟨_, pe_callB call_abs hg hm (by decide +kernel) (pa_cons h1 pa_nil hs) (by decide) (by decide) hs, refCB1 (f := fun x k => ∃ i, x = .int i ∧ k (.int (if i < 0 then -i else i))) r1 fun x k h R W B H σ ρ v Q e rx q => ?_⟩
  obtain ⟨i, rfl, hk⟩ := h
  exact ⟨i, by rw [rx.intV], q _ _ B H hk e (Grow.refl _ _) (.int _)⟩
end
end L3

/-! Statements, loops, comprehensions, lists of one's own, over trees. -/
namespace L3
open PySem L2
open PySem.Builtin.Int (intBits)
section
variable {K : PySem.W.Frag} {X : Cx} {e : Expr} {es : List Expr} {u : UE} {w : UL} {pos p : Pos}
/-! ### plain statements -/
def uNext : US := fun U ρ => U.nx ρ
def uSeq (s t : US) : US := fun U ρ => s { U with nx := t U } ρ
def uRet (u : UE) : US := fun U ρ => u ρ fun d => U.rt (.val d)
def uRetO (w : UL) : US := fun U ρ => w ρ fun ds => U.rt (.own ds)
def uSet (i : Nat) (u : UE) : US := fun U ρ => u ρ fun d => U.nx (ρ.set i (.val d))
def uSetO (i : Nat) (w : UL) : US := fun U ρ => w ρ fun ds => U.nx (ρ.set i (.own ds))
def uIf (c : UT) (s t : US) : US := fun U ρ => c ρ fun b => if b = true then s U ρ else t U ρ
/-- a list of one's own goes over to what stays -/
def uFz (i : Nat) (s : US) : US := fun U ρ => ∃ ds : List D, ρ[i]? = some (.own ds) ∧ s U (ρ.set i (.val (.lst ds)))
theorem s_nil : PSs3 X [] uNext := ⟨_, pss_nil, fun U ρ h R W B H σ D e s => s.nx ρ σ B H h e (Grow.refl _ _)⟩
theorem s_one {st : Stmt} {s : US} (h : PS3 X st s) : PSs3 X [st] s := by
  obtain ⟨_, h1, r1⟩ := h
  exact ⟨_, pss_one h1, r1⟩
theorem s_cons {st : Stmt} {rest : List Stmt} {s t : US} (h : PS3 X st s) (h' : PSs3 X rest t) : PSs3 X (st :: rest) (uSeq s t) := by
  obtain ⟨_, h1, r1⟩ := h; obtain ⟨_, h2, r2⟩ := h'
  refine ⟨_, pss_cons h1 h2, fun U ρ h R W B H σ D e sm => ?_⟩
  exact r1 _ ρ h R W B H σ _ e ⟨fun ρ' σ' B' H' z e' g => r2 U ρ' z R W B' H' σ' D e' (sm.grow g), sm.bk, sm.ct, sm.rt⟩
theorem s_fz {st : List Stmt} {s : US} (i : Nat) (h : PSs3 X st s) : PSs3 X st (uFz i s) := by
  obtain ⟨_, h1, r1⟩ := h
  refine ⟨_, h1, fun U ρ h R W B H σ D e sm => ?_⟩
  obtain ⟨ds, ho, z⟩ := h
  obtain ⟨B', e', g⟩ := e.fz ho
  exact r1 U _ z R W B' H σ D e' (sm.grow g)
theorem s_never {st : Stmt} : PS3 X st (fun _ _ => False) := ⟨_, ps_never, fun U ρ h => h.elim⟩
theorem s_ret (h : PE3 X e u) : PS3 X (.Return (some e) pos) (uRet u) := by
  obtain ⟨_, h1, r1⟩ := h
  refine ⟨_, ps_ret h1, fun U ρ h R W B H σ D e s => ?_⟩
  exact r1 ρ _ h R W B H σ _ e fun d v B1 H1 z1 e1 g1 s1 => s.rt _ v B1 H1 z1 e1.toWd g1 s1
theorem s_retO (h : PO3 X e w) : PS3 X (.Return (some e) pos) (uRetO w) := by
  obtain ⟨_, h1, r1⟩ := h
  refine ⟨_, ps_ret h1, fun U ρ h R W B H σ D e s => ?_⟩
  exact r1 ρ _ h R W B H σ _ e fun ds a vs B1 H1 z1 e1 g1 f1 f2 f3 f4 f5 => s.rt (.own ds) _ B1 H1 z1 e1.toWd g1 ⟨a, rfl, f1, f2, vs, f3, f4⟩
theorem s_set {i : Nat} {x : Str} {pos' : Pos} (hN : X.N.Nodup) (hi : X.N[i]? = some x) (hx : Loc X.env.scope x) (he : PE3 X e u) (hs : swapsWith e (some (.Name x pos')) pos.line X.env = pure false := by rfl) (hf : X.fn x = true ∨ X.env.scope.names.lookup x = some .local := by first | exact .inl rfl | exact .inr rfl | assumption) :
    PS3 X (.Assign [.Name x pos'] e pos) (uSet i u) := by
  obtain ⟨_, h1, r1⟩ := he
  refine ⟨_, ps_set hN hi hx h1 hs hf, fun U ρ h R W B H σ D e s => ?_⟩
  exact r1 ρ _ h R W B H σ _ e fun d v B1 H1 z1 e1 g1 s1 => s.nx _ _ B1 H1 z1 (e1.setV i s1) g1
theorem s_setO {i : Nat} {x : Str} {pos' : Pos} (hN : X.N.Nodup) (hi : X.N[i]? = some x) (hx : Loc X.env.scope x) (he : PO3 X e w) (hs : swapsWith e (some (.Name x pos')) pos.line X.env = pure false := by rfl) (hf : X.fn x = true ∨ X.env.scope.names.lookup x = some .local := by first | exact .inl rfl | exact .inr rfl | assumption) :
    PS3 X (.Assign [.Name x pos'] e pos) (uSetO i w) := by
  obtain ⟨_, h1, r1⟩ := he
  refine ⟨_, ps_set hN hi hx h1 hs hf, fun U ρ h R W B H σ D e s => ?_⟩
  exact r1 ρ _ h R W B H σ _ e fun ds a vs B1 H1 z1 e1 g1 f1 f2 f3 f4 f5 => s.nx _ _ B1 H1 z1 (e1.setO i f1 f2 f3 f4 fun j _ => f5 j) g1
theorem s_if {c : Expr} {a b : List Stmt} {uc : UT} {s t : US} (hc : PT3 X c uc) (ha : PSs3 X a s) (hb : PSs3 X b t) : PS3 X (.If c a b pos) (uIf uc s t) := by
  obtain ⟨_, h0, r0⟩ := hc; obtain ⟨_, h1, r1⟩ := ha; obtain ⟨_, h2, r2⟩ := hb
  refine ⟨_, ps_if h0 h1 h2, fun U ρ h R W B H σ D e sm => ?_⟩
  refine r0 ρ _ h R W B H σ _ e fun c B1 H1 z1 e1 g1 => ?_
  cases c with
  | true =>
    rw [if_pos rfl] at z1 ⊢
    exact r1 U ρ z1 R W B1 H1 σ D e1 (sm.grow g1)
  | false =>
    rw [if_neg Bool.false_ne_true] at z1 ⊢
    exact r2 U ρ z1 R W B1 H1 σ D e1 (sm.grow g1)
/-! ### targets -/
def ugName (i : Nat) : UG := fun d ρ k => k (ρ.set i (.val d))
def ugNil : UGs := fun ds ρ k => ds = [] ∧ k ρ
def ugCons (g : UG) (gs : UGs) : UGs := fun ds ρ k => ∃ d r, ds = d :: r ∧ g d ρ fun ρ' => gs r ρ' k
def ugTup (n : Nat) (gs : UGs) : UG := fun d ρ k => ∃ ds, d = .tup ds ∧ ds.length = n ∧ gs ds ρ k
def uAsg (u : UE) (g : UG) : US := fun U ρ => u ρ fun d => g d ρ U.nx
theorem g_name {i : Nat} {x : Str} (hN : X.N.Nodup) (hi : X.N[i]? = some x) (hx : Loc X.env.scope x) (hf : X.fn x = true ∨ X.env.scope.names.lookup x = some .local := by first | exact .inl rfl | exact .inr rfl | assumption) : PG3 X (.Name x pos) (ugName i) :=
  ⟨_, pg_name hN hi hx hf, fun d ρ k h R W B H σ v Q e r q => q _ _ h (e.setV i r) fun j a m => by
    exact (mut_setV m (by simp) (by simp) rfl).2⟩
theorem gs_nil : PGs3 X [] ugNil := ⟨_, pgs_nil, fun ds ρ k h R W B H σ vs Q e r q => by
  obtain ⟨rfl, h⟩ := h
  cases r
  exact ⟨rfl, q _ _ h e fun _ _ m => m⟩⟩
theorem gs_cons {g : UG} {gs : UGs} (h1 : PG3 X e g) (h2 : PGs3 X es gs) (hs : (assignEach (e :: es) X.env).map (·.2) = assign e X.env :: (assignEach es X.env).map (·.2) := by rfl) : PGs3 X (e :: es) (ugCons g gs) := by
  obtain ⟨_, h1, r1⟩ := h1; obtain ⟨_, h2, r2⟩ := h2
  refine ⟨_, pgs_cons h1 h2 hs, fun ds ρ k h R W B H σ vs Q e r q => ?_⟩
  obtain ⟨d, rr, rfl, h⟩ := h
  cases r with
  | cons rv rs =>
    refine ⟨_, _, rfl, r1 d ρ _ h R W B H σ _ _ e rv fun ρ' σ' z e' mm => ?_⟩
    exact r2 rr ρ' k z R W B H σ' _ _ e' rs fun ρ'' σ'' z2 e2 m2 => q ρ'' σ'' z2 e2 fun j a m => mm j a (m2 j a m)
theorem g_tup {k0 : Nat} {gs : UGs} {n : Nat} (hc : X.calm = true) (h : PGs3 X es gs) (hn : (assignEach es X.env).length = n := by rfl) (hst : (assignEach es X.env).findIdx? (·.1) = none := by rfl) : PG3 X (.Tuple es k0 pos) (ugTup n gs) := by
  obtain ⟨_, h1, r1⟩ := h
  refine ⟨_, pg_tup hc h1 hn hst, fun d ρ k h R W B H σ v Q e r q => ?_⟩
  obtain ⟨ds, rfl, hl, h⟩ := h
  obtain ⟨a, vs, rfl, ha, rs⟩ := r.tupV
  exact ⟨a, vs, rfl, SqT.of (e.bh _ _ ha), by rw [rs.length]; exact hl, r1 ds ρ k h R W B H σ vs Q e rs q⟩
theorem s_asg {tg : Expr} {g : UG} (he : PE3 X e u) (hg : PG3 X tg g) (hs : swapsWithSole [tg] e pos.line X.env = pure false := by rfl) (hw : swappedStores [tg] e X.env = pure none := by rfl)
    (h1 : (assignEach [tg] X.env).map (·.2) = [assign tg X.env] := by rfl) : PS3 X (.Assign [tg] e pos) (uAsg u g) := by
  obtain ⟨_, ha, r1⟩ := he; obtain ⟨_, hb, r2⟩ := hg
  refine ⟨_, ps_asg ha hb hs hw h1, fun U ρ h R W B H σ D e s => ?_⟩
  refine r1 ρ _ h R W B H σ _ e fun d v B1 H1 z1 e1 g1 s1 => ?_
  exact r2 d ρ _ z1 R W B1 H1 σ v _ e1 s1 fun ρ' σ' z2 e2 _ => s.nx _ _ B1 H1 z2 e2 g1
def uPar (i j : Nat) (w : UL) : US := fun U ρ => w ρ fun ds => ∃ x y, ds = [x, y] ∧ U.nx ((ρ.set i (.val x)).set j (.val y))
theorem s_par {i j : Nat} {x y : Str} {a b : Expr} {px py pt : Pos} {kt k2 pt2} (hc : X.calm = true) (hN : X.N.Nodup) (hi : X.N[i]? = some x) (hj : X.N[j]? = some y) (hij : i ≠ j)
    (hx : X.env.scope.names.lookup x = some .local) (hy : X.env.scope.names.lookup y = some .local) (ha : PL3 X [a, b] w)
    (hw : swappedStores [.Tuple [.Name x px, .Name y py] kt pt] (.Tuple [a, b] k2 pt2) X.env = pure (some [x, y]))
    (hs : swapsWithSole [.Tuple [.Name x px, .Name y py] kt pt] (.Tuple [a, b] k2 pt2) pos.line X.env = pure false := by rfl) :
    PS3 X (.Assign [.Tuple [.Name x px, .Name y py] kt pt] (.Tuple [a, b] k2 pt2) pos) (uPar i j w) := by
  obtain ⟨_, h1, r1⟩ := ha
  refine ⟨_, ps_par hc hN hi hj hij hx hy h1 hw hs, fun U ρ h R W B H σ D e s => ?_⟩
  refine r1 ρ _ h R W B H σ _ e fun ds vs B1 H1 z1 e1 g1 s1 => ?_
  obtain ⟨x, y, rfl, z1⟩ := z1
  cases s1 with
  | cons ra rb => cases rb with
    | cons rb rc =>
      cases rc
      exact ⟨_, _, rfl, s.nx _ _ B1 H1 z1 ((e1.setV i ra).setV j rb) g1⟩
/-! ### while -/
def uWhile (c : UT) (s : US) : US := fun U ρ => ∃ M : Nat → List Sl → Prop, (∃ m, M m ρ) ∧ ∀ m ρ, M m ρ → c ρ fun b => if b = true then s { U with nx := fun ρ' => ∃ m', m' < m ∧ M m' ρ', ct := fun ρ' => ∃ m', m' < m ∧ M m' ρ', bk := U.nx } ρ else U.nx ρ
theorem s_while {c : Expr} {body : List Stmt} {uc : UT} {s : US} (hp : PassesOwn (model X.prog X.w) X.A X.env X.xe) (hc : PT3 X c uc) (hb : PSs3 X body s) : PS3 X (.While c body [] pos) (uWhile uc s) := by
  obtain ⟨_, h0, r0⟩ := hc; obtain ⟨_, h1, r1⟩ := hb
  refine ⟨_, ps_while hp h0 h1, fun U ρ h R W B H σ D e sm => ?_⟩
  obtain ⟨M, ⟨m0, hm⟩, turn⟩ := h
  refine ⟨fun m σ' H' => ∃ ρ' B', M m ρ' ∧ Ev X.K R W B' H' σ' ρ' ∧ Grow R B B', ⟨m0, ρ, B, hm, e, Grow.refl _ _⟩, ?_⟩
  rintro m σ1 H1 ⟨ρ1, B1, hm1, e1, g1⟩
  refine r0 ρ1 _ (turn m ρ1 hm1) R W B1 H1 σ1 _ e1 fun b B2 H2 z2 e2 g2 => ?_
  cases b with
  | true =>
    rw [if_pos rfl] at z2 ⊢
    refine ⟨fun σ' H' => ∃ ρ' B', (∃ m', m' < m ∧ M m' ρ') ∧ Ev X.K R W B' H' σ' ρ' ∧ Grow R B B', ?_, ?_⟩
    · rintro σ' H' ⟨ρ', B', ⟨m', l, q⟩, e', g'⟩
      exact ⟨m', l, ρ', B', q, e', g'⟩
    · have gg := g1.trans g2
      exact r1 _ ρ1 z2 R W B2 H2 σ1 _ e2 ⟨fun ρ' σ' B' H' z e' g => ⟨ρ', B', z, e', gg.trans g⟩, fun ρ' σ' B' H' z e' g => sm.nx ρ' σ' B' H' z e' (gg.trans g), fun ρ' σ' B' H' z e' g => ⟨ρ', B', z, e', gg.trans g⟩, fun r v B' H' z e' g q => sm.rt r v B' H' z e' (gg.trans g) q⟩
  | false =>
    rw [if_neg Bool.false_ne_true] at z2 ⊢
    exact sm.nx ρ1 σ1 B2 H2 z2 e2 (g1.trans g2)
/-! ### what is walked, and for -/
theorem ItOk.list {B : Hp} {a : Addr} {vs : List V} {ds : List D} (h : B a = some (.lst vs)) (r : Reps K B vs ds) : ItOk K B (Itl K a) ds := by
  intro H s i
  have hH := s _ _ h
  have q : SqL K H a vs := SqL.of hH
  refine ⟨fun hi => ?_, fun hi => ⟨vs, q, by rw [r.length]; exact hi⟩, fun x H' hi ⟨e1, e2⟩ => ⟨e1, ?_⟩⟩
  · obtain ⟨v, e, _⟩ := r.get (List.getElem?_eq_getElem hi)
    exact ⟨vs, v, q, e⟩
  · exact r.getV (e2 vs q)
theorem ItOk.rng {B : Hp} (n : Nat) : ItOk K B (Itr 0 n) ((List.range n).map fun i : Nat => D.int i) := by
  intro H s i
  rw [List.length_map, List.length_range]
  refine ⟨fun hi => hi, fun hi => hi, fun x H' hi ⟨e1, e2⟩ => ⟨e1, ?_⟩⟩
  refine ⟨.int i, ?_, ?_⟩
  · rw [List.getElem?_map, List.getElem?_range hi]; rfl
  · rw [e2, Int.zero_add]; exact .int _
def uiL (u : UE) : UL := fun ρ k => u ρ fun d => ∃ ds, d = .lst ds ∧ k ds
def uiR (u : UE) : UL := fun ρ k => u ρ fun d => ∃ j, d = .int j ∧ -(2 ^ 62) ≤ j ∧ j < 2 ^ 62 ∧ k ((List.range j.toNat).map fun i : Nat => D.int i)
variable {tg : Expr}
theorem i_list {l : Expr} (hl : PE3 X l u) : PI3 X tg l (uiL u) := by
  obtain ⟨_, h1, r1⟩ := hl
  refine ⟨_, pi_list h1, fun ρ k h R W B H σ Q e q => ?_⟩
  refine r1 ρ _ h R W B H σ _ e fun d v B1 H1 z1 e1 g1 s1 => ?_
  obtain ⟨ds, rfl, z⟩ := z1
  obtain ⟨a, vs, rfl, ha, rs⟩ := s1.lstV
  exact ⟨a, rfl, ⟨vs, SqL.of (e1.bh _ _ ha)⟩, q ds _ B1 H1 z e1 g1 (ItOk.list ha rs)⟩
theorem i_rng {a : Expr} (ha : PE3 X a u) (hg : Gl X "range") (hm : X.mg "range" = none) (hs : starEach [a] X.env = [(false, eval a X.env)] := by rfl) : PI3 X tg (.Call (.Name "range" p) [a] [] pos) (uiR u) := by
  obtain ⟨_, h1, r1⟩ := ha
  refine ⟨_, pi_range1 hg hm (pa_cons h1 pa_nil (by exact hs)) hs, fun ρ k h R W B H σ Q e q => ?_⟩
  refine r1 ρ _ h R W B H σ _ e fun d v B1 H1 z1 e1 g1 s1 => ?_
  obtain ⟨j, rfl, j0, j1, z⟩ := z1
  exact ⟨j, by rw [s1.intV], j0, j1, q _ _ B1 H1 z e1 g1 (ItOk.rng _)⟩
/-- the turns, one behind another -/
def forR (g : UG) (s : US) (U : UEnds) : List D → List Sl → Prop
  | [], ρ => U.nx ρ
  | d :: ds, ρ => g d ρ fun ρ' => s { U with nx := forR g s U ds, ct := forR g s U ds, bk := U.nx } ρ'
def uFor (w : UL) (g : UG) (s : US) : US := fun U ρ => w ρ fun ds => forR g s U ds ρ
theorem s_for {iter : Expr} {body : List Stmt} {g : UG} {s : US} (hp : PassesOwn (model X.prog X.w) X.A X.env X.xe) (hc : X.calm = true) (hi : PI3 X tg iter w) (hg : PG3 X tg g) (hb : PSs3 X body s)
    (hs : ∀ x, foldedSetIterable iter X.env x = pure x := by intro _; rfl) : PS3 X (.For tg iter body [] pos) (uFor w g s) := by
  obtain ⟨_, h0, r0⟩ := hi; obtain ⟨_, h1, r1⟩ := hg; obtain ⟨_, h2, r2⟩ := hb
  refine ⟨_, ps_for hp hc h0 h1 h2 hs, fun U ρ h R W B H σ D e sm => ?_⟩
  refine r0 ρ _ h R W B H σ _ e fun ds J B1 H1 z1 e1 g1 it => ?_
  refine ⟨fun i m σ' H' => ∃ ρ' B', m = ds.length - i ∧ i ≤ ds.length ∧ forR g s U (ds.drop i) ρ' ∧ Ev X.K R W B' H' σ' ρ' ∧ Grow R B B' ∧ Same B1 B', ⟨ds.length, ρ, B1, by simp, Nat.zero_le _, z1, e1, g1, Same.refl _⟩, ?_⟩
  rintro i m σ1 H2 ⟨ρ1, B2, rfl, hi, z2, e2, g2, s2⟩
  obtain ⟨t1, t2, t3⟩ := it H2 (s2.trans e2.bh) i
  by_cases hlt : i < ds.length
  · refine .inr ⟨t1 hlt, fun σ' H' => ∃ ρ' B', forR g s U (ds.drop (i + 1)) ρ' ∧ Ev X.K R W B' H' σ' ρ' ∧ Grow R B B' ∧ Same B1 B', ?_, ?_⟩
    · rintro σ' H' ⟨ρ', B', z, e', g', s'⟩
      exact ⟨ds.length - (i + 1), by omega, ρ', B', rfl, hlt, z, e', g', s'⟩
    · intro x H' y
      obtain ⟨rfl, d, hd, rx⟩ := t3 x H' hlt y
      have ed : ds.drop i = d :: ds.drop (i + 1) := by
        rw [List.drop_eq_getElem_cons hlt]
        rw [List.getElem?_eq_getElem hlt] at hd
        rw [Option.some.inj hd]
      rw [ed] at z2
      refine r1 d ρ1 _ z2 R W B2 _ σ1 x _ e2 (rx.mono s2) fun ρ' σ' z' e' _ => ?_
      exact r2 _ ρ' z' R W B2 _ σ' _ e' ⟨fun ρ' σ' B' H' z e' g => ⟨ρ', B', z, e', g2.trans g, s2.trans g.s⟩, fun ρ' σ' B' H' z e' g => sm.nx ρ' σ' B' H' z e' (g2.trans g), fun ρ' σ' B' H' z e' g => ⟨ρ', B', z, e', g2.trans g, s2.trans g.s⟩, fun r v B' H' z e' g q => sm.rt r v B' H' z e' (g2.trans g) q⟩
  · have ei : i = ds.length := by omega
    subst ei
    rw [List.drop_length] at z2
    exact .inl ⟨t2 (Nat.le_refl _), sm.nx ρ1 σ1 B2 H2 z2 e2 g2⟩
end
end L3

/-! Lists over trees: slices, sums of lists, copies, append, items given, comprehensions, a new bag. -/
namespace L3
open PySem L2
open PySem.Builtin.Int (intBits)
section
variable {K : PySem.W.Frag} {X : Cx} {e : Expr} {es : List Expr} {u : UE} {w : UL} {pos p : Pos}
/-- a new list from values that are read -/
theorem Ev.newO {R : Hp} {W : Addr → Prop} {B H : Hp} {σ : St} {ρ : List Sl} (e : Ev K R W B H σ ρ) {q : Addr} (hq : H q = none) {vs : List V} {ds : List D} (r : Reps K B vs ds) :
    Ev K R W B (upd H q (.lst vs)) σ ρ ∧ R q = none ∧ B q = none ∧ (upd H q (.lst vs)) q = some (.lst vs) ∧ ∀ i, ¬ MutAt σ ρ i q := by
  obtain ⟨f1, f2, f3⟩ := e.toWd.fresh hq
  exact ⟨e.allocH hq _, f1, f3, upd_same, fun i m => e.notNew hq m rfl⟩
def cutL {α : Type} (xs : List α) (lo hi : Option Int) : List α := (xs.drop (HT.sIx xs.length 0 lo)).take (HT.sIx xs.length xs.length hi - HT.sIx xs.length 0 lo)
theorem Reps.cut {B : Hp} {vs : List V} {ds : List D} (r : Reps K B vs ds) (lo hi : Option Int) : Reps K B (cutL vs lo hi) (cutL ds lo hi) := by
  unfold cutL
  rw [r.length]
  exact (r.drop _).take _
/-- a slice's part -/
abbrev UP := List Sl → (Option Int → Prop) → Prop
def RefP (K : PySem.W.Frag) (t : TO) (u : UP) : Prop := ∀ (ρ : List Sl) (k : Option Int → Prop), u ρ k → ∀ (R : Hp) (W : Addr → Prop) (B H : Hp) (σ : St) (Q : Option Int → Hp → Prop), Ev K R W B H σ ρ →
  (∀ o B' H', k o → Ev K R W B' H' σ ρ → Grow R B B' → Q o H') → t σ H Q
def PP3 (X : Cx) (e : Option Expr) (u : UP) : Prop := ∃ t, PO X e t ∧ RefP X.K t u
def upN : UP := fun _ k => k none
def upS (u : UE) : UP := fun ρ k => u ρ fun d => ∃ i, d = .int i ∧ k (some i)
theorem p_none : PP3 X none upN := ⟨_, po_none, fun ρ k h R W B H σ Q e q => q none B H h e (Grow.refl _ _)⟩
theorem p_some (h : PE3 X e u) : PP3 X (some e) (upS u) := by
  obtain ⟨_, h1, r1⟩ := h
  refine ⟨_, po_some h1, fun ρ k h R W B H σ Q e q => ?_⟩
  refine r1 ρ _ h R W B H σ _ e fun d v B1 H1 z1 e1 g1 s1 => ?_
  obtain ⟨i, rfl, z⟩ := z1
  exact ⟨i, s1.intV, q _ B1 H1 z e1 g1⟩
/-- the items of a list that is read -/
def itemsD : D → Option (List D)
  | .lst ds => some ds
  | .scr ns => some (ns.map .int)
  | _ => none
theorem itemsD_ok {B H : Hp} {v : V} {x : D} {ds : List D} (s : Same B H) (r : Rep K B v x) (h : itemsD x = some ds) : ∃ a vs, v = .ref a ∧ SqL K H a vs ∧ Reps K B vs ds := by
  cases x <;> first | (cases h; done) | skip
  · obtain ⟨a, vs, rfl, ha, rs⟩ := r.lstV
    cases h
    exact ⟨a, vs, rfl, SqL.of (s _ _ ha), rs⟩
  · obtain ⟨a, rfl, ha⟩ := r.scrV
    cases h
    exact ⟨a, _, rfl, s.seq ha, Reps.ints _⟩
def uSl (u : UE) (l h : UP) : UL := fun ρ k => u ρ fun x => l ρ fun lo => h ρ fun hi => ∃ ds, itemsD x = some ds ∧ k (cutL ds lo hi)
theorem o_slice {lo hi : Option Expr} {ul uh : UP} {p2 : Pos} (he : PE3 X e u) (hl : PP3 X lo ul) (hh : PP3 X hi uh) : PO3 X (.Subscript e (.Slice lo hi none p2) pos) (uSl u ul uh) := by
  obtain ⟨_, h1, r1⟩ := he; obtain ⟨_, h2, r2⟩ := hl; obtain ⟨_, h3, r3⟩ := hh
  refine ⟨_, pe_slice sl_list h1 h2 h3, fun ρ k h R W B H σ Q e q => ?_⟩
  refine r1 ρ _ h R W B H σ _ e fun d v B1 H1 z1 e1 g1 s1 => ?_
  refine r2 ρ _ z1 R W B1 H1 σ _ e1 fun lo B2 H2 z2 e2 g2 => ?_
  refine r3 ρ _ z2 R W B2 H2 σ _ e2 fun hi B3 H3 z3 e3 g3 => ?_
  obtain ⟨ds, hd, z⟩ := z3
  obtain ⟨a, vs, rfl, ha, rs⟩ := itemsD_ok e3.bh (s1.mono (g2.trans g3).s) hd
  refine ⟨a, vs, rfl, ha, fun p hp => ?_⟩
  obtain ⟨f1, f2, f3, f4, f5⟩ := e3.newO hp (rs.cut lo hi)
  exact q _ p _ B3 _ z f1 ((g1.trans g2).trans g3) f2 f3 f4 (rs.cut lo hi) f5
def uCat (u v : UE) : UL := fun ρ k => u ρ fun x => v ρ fun y => ∃ ds es, x = .lst ds ∧ y = .lst es ∧ ds.length + es.length ≤ sizeLine ∧ k (ds ++ es)
theorem o_cat {a b : Expr} {ua ub : UE} (ha : PE3 X a ua) (hb : PE3 X b ub) : PO3 X (.BinOp a .Add b pos) (uCat ua ub) := by
  obtain ⟨_, h1, r1⟩ := ha; obtain ⟨_, h2, r2⟩ := hb
  refine ⟨_, pe_op op_cat h1 h2, fun ρ k h R W B H σ Q e q => ?_⟩
  refine r1 ρ _ h R W B H σ _ e fun d v B1 H1 z1 e1 g1 s1 => ?_
  refine r2 ρ _ z1 R W B1 H1 σ _ e1 fun d' v' B2 H2 z2 e2 g2 s2 => ?_
  obtain ⟨ds, es, rfl, rfl, hl, z⟩ := z2
  obtain ⟨a, vs, rfl, ha, rs⟩ := (s1.mono g2.s).lstV
  obtain ⟨b, ws, rfl, hb, rt⟩ := s2.lstV
  refine ⟨a, b, vs, ws, rfl, rfl, e2.bh _ _ ha, e2.bh _ _ hb, by rw [rs.length, rt.length]; exact hl, fun p hp => ?_⟩
  obtain ⟨f1, f2, f3, f4, f5⟩ := e2.newO hp (rs.append rt)
  exact q _ p _ B2 _ z f1 (g1.trans g2) f2 f3 f4 (rs.append rt) f5
/-- a list of one's own in a slot, read where it stands: in a slice, in a loop -/
def uSum (u : UE) : UE := fun ρ k => u ρ fun x => ∃ ns : List Int, x = .lst (ns.map .int) ∧ k (.int ns.sum)
theorem reps_ints {B : Hp} : ∀ {ns : List Int} {vs : List V}, Reps K B vs (ns.map D.int) → vs = ns.map V.int
  | [], _, .nil => rfl
  | n :: r, _, .cons h t => by rw [h.intV, reps_ints t]; rfl
theorem e_sum (ha : PE3 X e u) (hc : X.calm = true) (hg : Gl X "sum") (hm : X.mg "sum" = none) (hs : starEach [e] X.env = (false, eval e X.env) :: starEach [] X.env := by rfl) : PE3 X (.Call (.Name "sum" p) [e] [] pos) (uSum u) := by
  obtain ⟨_, h1, r1⟩ := ha
  refine ⟨_, pe_callB (call_sum hc) hg hm (by decide +kernel) (pa_cons h1 pa_nil hs) (by decide) (by decide) hs, refCB1 (f := fun x k => ∃ ns : List Int, x = .lst (ns.map .int) ∧ k (.int ns.sum)) r1 fun x k h R W B H σ ρ v Q e rx q => ?_⟩
  obtain ⟨ns, rfl, hk⟩ := h
  obtain ⟨a, vs, rfl, ha, rs⟩ := rx.lstV
  cases reps_ints rs
  exact ⟨a, ns, rfl, e.bh _ _ ha, q _ _ B H hk e (Grow.refl _ _) (.int _)⟩
/-! ### append, items given -/
def uApp (i : Nat) (u : UE) : US := fun U ρ => ∃ ds : List D, ρ[i]? = some (.own ds) ∧ u ρ fun d => ds.length < sizeLine ∧ U.nx (ρ.set i (.own (ds ++ [d])))
theorem s_app (i : Nat) {x : Str} {px apos cpos : Pos} (he : PE3 X e u) (hN : X.N[i]? = some x := by rfl) (hv : Vis X.env.scope x := by first | exact Or.inl rfl | exact Or.inr (Or.inl rfl) | exact Or.inr (Or.inr rfl)) (hd : (x == ("__debug__" : Str)) = false := by decide)
    (hcd : (x == ("__classdict__" : Str)) = false := by decide) (hbase : attributeBase (.Name x px) "append" X.env (eval (.Name x px) X.env) = eval (.Name x px) X.env := by rfl)
    (hfew : ((backTo cpos (starEach [e] X.env)).all (fun x => !x.1) && (backToKw cpos (keywordEach [] X.env)).all (fun x => x.1.isSome)
      && decide ([e].length + ([] : List Keyword).length + (if ([] : List Keyword).isEmpty then 0 else 1) < 30)) = true := by rfl)
    (hline : (apos.endLine == cpos.line) = true := by rfl) (hs : starEach [e] X.env = (false, eval e X.env) :: starEach [] X.env := by rfl) (hplain : (backTo cpos (starEach ([] : List Expr) X.env)).any (·.1) = false := by rfl)
    (hsw : swapsWith (.Call (.Attribute (.Name x px) "append" apos) [e] [] cpos) none pos.line X.env = pure false := by rfl) : PS3 X (.Expr (.Call (.Attribute (.Name x px) "append" apos) [e] [] cpos) pos) (uApp i u) := by
  obtain ⟨_, h1, r1⟩ := he
  refine ⟨_, ps_expr (pe_bm PySem.F.plainAttrs_list PySem.F.slot_list_append PySem.F.type_list_append mt_append (pe_var hN hv hd hcd) (pa_cons h1 pa_nil hs) hbase hfew hline hs hplain) hsw, fun U ρ h R W B H σ D e s => ?_⟩
  obtain ⟨ds, ho, h⟩ := h
  obtain ⟨a, vs, e1, e2, e3, e4, e5⟩ := e.ownAt ho
  refine ⟨_, e1, .inl ⟨rfl, vs, SqL.of e4⟩, ?_⟩
  refine r1 ρ _ h R W B H σ _ e fun d v B1 H1 z1 f1 g1 s1 => ?_
  obtain ⟨a', vs', k1, k2, k3, k4, k5⟩ := f1.ownAt ho
  rw [e1] at k1; cases k1
  exact ⟨a, vs', v, rfl, rfl, k4, by rw [k5.length]; exact z1.1, s.nx _ _ B1 _ z1.2 (f1.write e1 ho (k5.append (.cons s1 .nil))) g1⟩
/-! ### comprehensions -/
def frS (ρ : List Sl) (j : Nat) : Sl := match ρ[j]? with
  | some (.val d) => .val d
  | some .bag => .bag
  | _ => .no
theorem Ev.scribble {R : Hp} {W : Addr → Prop} {B H : Hp} {σ : St} {ρ : List Sl} (e : Ev K R W B H σ ρ) {a : Addr} (hr : R a = none) (hb : B a = none) (hm : ∀ i, ¬ MutAt σ ρ i a) (o : HO) : Ev K R W B (upd H a o) σ ρ := by
  have nw : ¬ W a := fun z => e.wr a z hr
  refine e.move ⟨fun b q h z => ?_, fun b q h => ?_, e.wb, fun b z => (e.wh b z).upd (by rintro rfl; exact nw z), e.wr⟩ (Same.refl _) fun i b m => ?_
  · rw [upd_ne (by rintro rfl; rw [hr] at h; cases h)]; exact e.fr b q h z
  · rw [upd_ne (by rintro rfl; rw [hb] at h; cases h)]; exact e.bh b q h
  · have n : b ≠ a := by rintro rfl; exact hm i m
    refine ⟨(e.mutOk m).1, fun z => ?_, fun _ => upd_ne n⟩
    obtain ⟨c, c1, _, _, c4⟩ := e.bagAt z
    rw [mut_bag m z] at c1; cases c1
    exact c4.upd n
theorem freeV_get {σ : St} {js : List Nat} {i : Nat} {o : Option V} (h : (freeV σ js)[i]? = some o) : ∃ j, js[i]? = some j ∧ o = (σ[j]?).join := by
  unfold freeV at h
  rw [List.getElem?_map] at h
  cases q : js[i]? with
  | none => rw [q] at h; cases h
  | some j => rw [q] at h; exact ⟨j, rfl, (Option.some.inj h).symm⟩
/-! ### a new bag -/
def RefN (K : PySem.W.Frag) (t : TE) (u : List Sl → Prop → Prop) : Prop := ∀ (ρ : List Sl) (k : Prop), u ρ k → ∀ (R : Hp) (W : Addr → Prop) (B H : Hp) (σ : St) (Q : VK), Ev K R W B H σ ρ →
  (∀ a B' H', k → Ev K R W B' H' σ ρ → Grow R B B' → R a = none → B' a = none → Bag H' a → (∀ i, ¬ MutAt σ ρ i a) → Q (.ref a) H') → t σ H Q
def PN3 (X : Cx) (e : Expr) (u : List Sl → Prop → Prop) : Prop := ∃ t, PE X e t ∧ RefN X.K t u
def uCallN (n : Nat) (F : FS) (w : UA) : List Sl → Prop → Prop := fun ρ k => w ρ fun as => sh as n = true ∧ F (as.map Arg.sl) fun r => r = .bag ∧ k
theorem n_call {n : Nat} {F : FS} {w : UA} {x : Str} {ps : List Str} {j lv : Nat} (c : Cal X.prog X.w X.K X.mg X.base x ps j (Con X.K n F)) (hr : Room lv X.A) (hg : Gl X x) (ha : PA3 X (e :: es) w) (hjk : j ≤ lv := by decide)
    (hdb : (x == ("__debug__" : Str)) = false := by decide) (he : starEach (e :: es) X.env = (false, eval e X.env) :: starEach es X.env := by rfl) (hpl : (backTo pos (starEach es X.env)).any (·.1) = false := by rfl) :
    PN3 X (.Call (.Name x p) (e :: es) [] pos) (uCallN n F w) := by
  obtain ⟨_, h1, r1⟩ := ha
  refine ⟨_, pe_cal c hr hg h1 hjk hdb he hpl, fun ρ k h R W B H σ Q e q => ?_⟩
  refine r1 ρ _ h R W B H σ _ e fun as vs B1 H1 z1 e1 g1 s1 => ?_
  rw [List.append_nil]
  refine call_ok e1 s1 z1.1 z1.2 fun r v B2 H2 hk e2 g2 res => ?_
  obtain ⟨rfl, hk⟩ := hk
  obtain ⟨a, rfl, f1, f2, f3⟩ := res
  exact q a B2 H2 hk e2 (g1.trans g2) (e1.toWd.fresh f1).1 f2 f3 fun i m => (e1.mutOk m).2 f1
def uSetN (i : Nat) (u : List Sl → Prop → Prop) : US := fun U ρ => u ρ (U.nx (ρ.set i .bag))
theorem s_setN {i : Nat} {x : Str} {pos' : Pos} {u : List Sl → Prop → Prop} (hN : X.N.Nodup) (hi : X.N[i]? = some x) (hx : Loc X.env.scope x) (he : PN3 X e u) (hs : swapsWith e (some (.Name x pos')) pos.line X.env = pure false := by rfl) (hf : X.fn x = true ∨ X.env.scope.names.lookup x = some .local := by first | exact .inl rfl | exact .inr rfl | assumption) :
    PS3 X (.Assign [.Name x pos'] e pos) (uSetN i u) := by
  obtain ⟨_, h1, r1⟩ := he
  refine ⟨_, ps_set hN hi hx h1 hs hf, fun U ρ h R W B H σ D e s => ?_⟩
  refine r1 ρ _ h R W B H σ _ e fun a B1 H1 z1 e1 g1 f1 f2 f3 f4 => s.nx _ _ B1 H1 z1 (e1.set i ⟨a, rfl, .inr f1, f2, f3⟩ fun b z _ j _ => ?_) g1
  cases z
  exact f4 j
end
end L3

/-! Equality of trees of one shape; in, not in. -/
namespace L3
open PySem L2
inductive Sh where
  | I | B | N | S | T (ss : List Sh) | L (s : Sh)
mutual
def has : Sh → D → Bool
  | .I, .int _ => true
  | .B, .bl _ => true
  | .N, .non => true
  | .S, .str _ => true
  | .T ss, .tup xs => hass ss xs
  | .L s, .lst xs => xs.all fun x => has s x
  | _, _ => false
def hass : List Sh → List D → Bool
  | [], [] => true
  | s :: ss, x :: xs => has s x && hass ss xs
  | _, _ => false
end
mutual
def dep : Sh → Nat
  | .T ss => deps ss + 1
  | .L s => dep s + 1
  | _ => 0
def deps : List Sh → Nat
  | [] => 0
  | s :: ss => max (dep s) (deps ss)
end
noncomputable def eqD (x y : D) : Bool := @decide (x = y) (Classical.propDecidable _)
theorem eqD_iff {x y : D} : eqD x y = true ↔ x = y := by unfold eqD; exact @decide_eq_true_iff _ (Classical.propDecidable _)
theorem eqD_self (x : D) : eqD x x = true := eqD_iff.mpr rfl
theorem eqD_of {x y : D} {b : Bool} (h : b = true ↔ x = y) : eqD x y = b := by
  rw [Bool.eq_iff_iff, eqD_iff, h]
section
variable {K : PySem.W.Frag} {B : Hp}
theorem has_int {x : D} (h : has .I x = true) : ∃ i, x = .int i := by cases x <;> first | exact ⟨_, rfl⟩ | (simp [has] at h)
theorem has_bl {x : D} (h : has .B x = true) : ∃ i, x = .bl i := by cases x <;> first | exact ⟨_, rfl⟩ | (simp [has] at h)
theorem has_non {x : D} (h : has .N x = true) : x = .non := by cases x <;> first | rfl | (simp [has] at h)
theorem has_str {x : D} (h : has .S x = true) : ∃ i, x = .str i := by cases x <;> first | exact ⟨_, rfl⟩ | (simp [has] at h)
theorem has_tup {x : D} {ss : List Sh} (h : has (.T ss) x = true) : ∃ xs, x = .tup xs ∧ hass ss xs = true := by
  cases x <;> first | exact ⟨_, rfl, by simpa [has] using h⟩ | (simp [has] at h)
theorem has_lst {x : D} {s : Sh} (h : has (.L s) x = true) : ∃ xs, x = .lst xs ∧ ∀ y ∈ xs, has s y = true := by
  cases x <;> first | exact ⟨_, rfl, by simpa [has] using h⟩ | (simp [has] at h)
theorem hass_len : ∀ {ss : List Sh} {xs : List D}, hass ss xs = true → xs.length = ss.length
  | [], [], _ => rfl
  | [], _ :: _, h => by simp [hass] at h
  | _ :: _, [], h => by simp [hass] at h
  | s :: ss, x :: xs, h => by
    simp [hass] at h
    simp [hass_len h.2]
mutual
theorem rep_fn : ∀ (sh : Sh) {x y : D} {v : V}, has sh x = true → has sh y = true → Rep K B v x → Rep K B v y → x = y
  | .I, x, y, v, h1, h2, r1, r2 => by
    obtain ⟨i, rfl⟩ := has_int h1; obtain ⟨j, rfl⟩ := has_int h2
    have e := r1.intV.symm.trans r2.intV
    cases e; rfl
  | .B, x, y, v, h1, h2, r1, r2 => by
    obtain ⟨i, rfl⟩ := has_bl h1; obtain ⟨j, rfl⟩ := has_bl h2
    have e := r1.blV.symm.trans r2.blV
    cases e; rfl
  | .N, x, y, v, h1, h2, r1, r2 => by rw [has_non h1, has_non h2]
  | .S, x, y, v, h1, h2, r1, r2 => by
    obtain ⟨i, rfl⟩ := has_str h1; obtain ⟨j, rfl⟩ := has_str h2
    cases r1; cases r2; rfl
  | .T ss, x, y, v, h1, h2, r1, r2 => by
    obtain ⟨xs, rfl, q1⟩ := has_tup h1; obtain ⟨ys, rfl, q2⟩ := has_tup h2
    obtain ⟨a, vs, rfl, ha, ra⟩ := r1.tupV
    obtain ⟨b, ws, e, hb, rb⟩ := r2.tupV
    cases e
    rw [ha] at hb; cases hb
    rw [reps_fn ss q1 q2 ra rb]
  | .L s, x, y, v, h1, h2, r1, r2 => by
    obtain ⟨xs, rfl, q1⟩ := has_lst h1; obtain ⟨ys, rfl, q2⟩ := has_lst h2
    obtain ⟨a, vs, rfl, ha, ra⟩ := r1.lstV
    obtain ⟨b, ws, e, hb, rb⟩ := r2.lstV
    cases e
    rw [ha] at hb; cases hb
    have : xs = ys := by
      apply List.ext_getElem?
      intro i
      cases qx : xs[i]? with
      | none =>
        have : ys[i]? = none := by
          have h1 := ra.length
          have h2 := rb.length
          have h3 := List.getElem?_eq_none_iff.mp qx
          exact List.getElem?_eq_none_iff.mpr (by omega)
        rw [this]
      | some d =>
        obtain ⟨v, ev, rv⟩ := ra.get qx
        obtain ⟨d', ed, rd⟩ := rb.getV ev
        rw [ed, rep_fn s (q1 d (List.mem_of_getElem? qx)) (q2 d' (List.mem_of_getElem? ed)) rv rd]
    rw [this]
theorem reps_fn : ∀ (ss : List Sh) {xs ys : List D} {vs : List V}, hass ss xs = true → hass ss ys = true → Reps K B vs xs → Reps K B vs ys → xs = ys
  | [], xs, ys, vs, h1, h2, r1, r2 => by
    have e1 := hass_len h1; have e2 := hass_len h2
    rw [List.length_nil] at e1 e2
    rw [List.eq_nil_of_length_eq_zero e1, List.eq_nil_of_length_eq_zero e2]
  | s :: ss, [], ys, vs, h1, h2, r1, r2 => by simp [hass] at h1
  | s :: ss, x :: xs, [], vs, h1, h2, r1, r2 => by simp [hass] at h2
  | s :: ss, x :: xs, y :: ys, vs, h1, h2, r1, r2 => by
    simp [hass] at h1 h2
    cases r1 with
    | cons a1 b1 => cases r2 with
      | cons a2 b2 => rw [rep_fn s h1.1 h2.1 a1 a2, reps_fn ss h1.2 h2.2 b1 b2]
end
end
section
variable {X : Cx} {pins : List (Addr × Obj)} {σ : St} {H B : Hp} {s : Shared}
theorem all_eqD {xs ys : List D} {n : Nat} {e : Nat → Bool} (hn : n = xs.length) (hl : xs.length = ys.length) (he : ∀ j, j < n → (e j = true ↔ xs[j]? = ys[j]?)) : ((List.range n).all e) = true ↔ xs = ys := by
  rw [List.all_eq_true]
  constructor
  · intro h
    apply List.ext_getElem?
    intro i
    by_cases hi : i < n
    · exact (he i hi).mp (h i (List.mem_range.mpr hi))
    · rw [List.getElem?_eq_none (by omega), List.getElem?_eq_none (by omega)]
  · rintro rfl j hj
    exact (he j (List.mem_range.mp hj)).mpr rfl
noncomputable def eqO (xs ys : List D) (j : Nat) : Bool := @decide (xs[j]? = ys[j]?) (Classical.propDecidable _)
theorem eqO_iff {xs ys : List D} {j : Nat} : eqO xs ys j = true ↔ xs[j]? = ys[j]? := by unfold eqO; exact @decide_eq_true_iff _ (Classical.propDecidable _)
theorem eqO_at {xs ys : List D} {j : Nat} {x y : D} (h1 : xs[j]? = some x) (h2 : ys[j]? = some y) : eqO xs ys j = eqD x y := by
  rw [Bool.eq_iff_iff, eqO_iff, eqD_iff, h1, h2]
  constructor
  · intro h; exact Option.some.inj h
  · intro h; rw [h]
structure EqAll (A : Around) (s : Shared) (u w : Value) (x y : D) : Prop where
  rc : SeqAt.RcAt A s u w (eqD x y)
  ne : SeqAt.RcNeAt A s u w (!eqD x y)
  eq : SeqAt.EqAt A s u w (eqD x y)
mutual
theorem eq_sh (I : Inv X pins σ H s) (sB : Same B H) : ∀ (sh : Sh) {A : Around} {x y : D} {v w : V} {u u' : Value}, has sh x = true → has sh y = true → Rep X.K B v x → Rep X.K B w y → RelV v u → RelV w u' → A.units + dep sh < cLine → EqAll A s u u' x y
  | .I, A, x, y, v, w, u, u', h1, h2, r1, r2, l1, l2, hu => by
    obtain ⟨i, rfl⟩ := has_int h1; obtain ⟨j, rfl⟩ := has_int h2
    cases r1.intV; cases r2.intV
    obtain ⟨t, rfl⟩ := l1; obtain ⟨t', rfl⟩ := l2
    have e : eqD (.int i) (.int j) = (i == j) := eqD_of (by simp)
    refine ⟨?_, ?_, ?_⟩ <;> rw [e]
    · exact SeqAt.RcAt.int_int i t j t'
    · exact SeqAt.RcNeAt.int_int i t j t'
    · exact SeqAt.EqAt.int_int i t j t'
  | .B, A, x, y, v, w, u, u', h1, h2, r1, r2, l1, l2, hu => by
    obtain ⟨i, rfl⟩ := has_bl h1; obtain ⟨j, rfl⟩ := has_bl h2
    cases r1.blV; cases r2.blV
    cases l1; cases l2
    have e : eqD (.bl i) (.bl j) = (i == j) := eqD_of (by simp)
    refine ⟨?_, ?_, ?_⟩ <;> rw [e]
    · exact SeqAt.RcAt.bool_bool i j
    · exact SeqAt.RcNeAt.bool_bool i j
    · exact SeqAt.EqAt.bool_bool i j
  | .N, A, x, y, v, w, u, u', h1, h2, r1, r2, l1, l2, hu => by
    cases has_non h1; cases has_non h2
    cases r1.nonV; cases r2.nonV
    cases l1; cases l2
    have e : eqD .non .non = true := eqD_self _
    refine ⟨?_, ?_, ?_⟩ <;> rw [e]
    · exact SeqAt.RcAt.none_none
    · exact SeqAt.RcNeAt.none_none
    · exact SeqAt.EqAt.same _
  | .S, A, x, y, v, w, u, u', h1, h2, r1, r2, l1, l2, hu => by
    obtain ⟨i, rfl⟩ := has_str h1; obtain ⟨j, rfl⟩ := has_str h2
    cases r1; cases r2
    obtain ⟨t, rfl⟩ := l1; obtain ⟨t', rfl⟩ := l2
    have e : eqD (.str i) (.str j) = (i == j) := eqD_of (by simp)
    refine ⟨?_, ?_, ?_⟩ <;> rw [e]
    · exact SeqAt.RcAt.str_str i t j t'
    · exact SeqAt.RcNeAt.str_str i t j t'
    · exact SeqAt.EqAt.str_str i t j t'
  | .T ss, A, x, y, v, w, u, u', h1, h2, r1, r2, l1, l2, hu => by
    have r1' := r1
    have r2' := r2
    obtain ⟨xs, rfl, q1⟩ := has_tup h1; obtain ⟨ys, rfl, q2⟩ := has_tup h2
    obtain ⟨a, vs, rfl, ha, ra⟩ := r1.tupV
    obtain ⟨b, ws, rfl, hb, rb⟩ := r2.tupV
    cases l1; cases l2
    obtain ⟨its, k1, t1, _⟩ := I.tuple (SqT.of (sB _ _ ha))
    obtain ⟨its2, k2, t2, _⟩ := I.tuple (SqT.of (sB _ _ hb))
    have d1 : dep (.T ss) = deps ss + 1 := by simp [dep]
    have lx := hass_len q1
    have ly := hass_len q2
    have z1 := ra.length; have z2 := rb.length; have z3 := k1.length; have z4 := k2.length
    have el := eqs_sh I sB ss (A := A.in1) q1 q2 ra rb k1 k2 (by show A.units + 1 + deps ss < cLine; omega)
    have he : ∀ j (h1 : j < its.toArray.size) (h2 : j < its2.toArray.size), SeqAt.EqAt A.in1 s its.toArray[j] its2.toArray[j] (eqO xs ys j) := fun j g1 g2 => by
      have := el j (by simpa using g1) (by simpa using g2)
      simpa using this
    have e : eqD (.tup xs) (.tup ys) = ((List.range (min its.toArray.size its2.toArray.size)).all (eqO xs ys) && its.toArray.size == its2.toArray.size) := by
      refine eqD_of ?_
      have s1 : its.toArray.size = xs.length := by simp; omega
      have s2 : its2.toArray.size = xs.length := by simp; omega
      rw [s1, s2, Nat.min_self, Bool.and_eq_true]
      have := all_eqD (xs := xs) (ys := ys) (n := xs.length) (e := eqO xs ys) rfl (by omega) (fun j _ => eqO_iff)
      constructor
      · intro h; rw [this.mp h.1]
      · intro h; cases h; exact ⟨this.mpr rfl, by simp⟩
    have rc : SeqAt.RcAt A s (.ref a) (.ref b) (eqD (.tup xs) (.tup ys)) := by rw [e]; exact SeqAt.RcAt.tuples t1 t2 (by omega) he
    refine ⟨rc, by rw [e]; exact SeqAt.RcNeAt.tuples t1 t2 (by omega) he, ?_⟩
    by_cases hab : a = b
    · subst hab
      have := rep_fn (.T ss) h1 h2 r1' r2'
      rw [this, eqD_self]
      exact SeqAt.EqAt.same _
    · exact SeqAt.EqAt.of_refs hab rc
  | .L sh, A, x, y, v, w, u, u', h1, h2, r1, r2, l1, l2, hu => by
    have r1' := r1
    have r2' := r2
    obtain ⟨xs, rfl, q1⟩ := has_lst h1; obtain ⟨ys, rfl, q2⟩ := has_lst h2
    obtain ⟨a, vs, rfl, ha, ra⟩ := r1.lstV
    obtain ⟨b, ws, rfl, hb, rb⟩ := r2.lstV
    cases l1; cases l2
    obtain ⟨its, k1, p1, _⟩ := I.list (SqL.of (sB _ _ ha))
    obtain ⟨its2, k2, p2, _⟩ := I.list (SqL.of (sB _ _ hb))
    have t1 := p1.isList
    have t2 := p2.isList
    have d1 : dep (.L sh) = dep sh + 1 := by simp [dep]
    have z1 := ra.length; have z2 := rb.length; have z3 := k1.length; have z4 := k2.length
    have he : ∀ j (h1 : j < its.toArray.size) (h2 : j < its2.toArray.size), SeqAt.EqAt A.in1 s its.toArray[j] its2.toArray[j] (eqO xs ys j) := fun j g1 g2 => by
      have g1' : j < its.length := by simpa using g1
      have g2' : j < its2.length := by simpa using g2
      obtain ⟨v1, e1, rv1⟩ := k1.getR (List.getElem?_eq_getElem g1')
      obtain ⟨v2, e2, rv2⟩ := k2.getR (List.getElem?_eq_getElem g2')
      obtain ⟨c1, f1, rd1⟩ := ra.getV e1
      obtain ⟨c2, f2, rd2⟩ := rb.getV e2
      rw [eqO_at f1 f2]
      have := (eq_sh I sB sh (A := A.in1) (q1 c1 (List.mem_of_getElem? f1)) (q2 c2 (List.mem_of_getElem? f2)) rd1 rd2 rv1 rv2 (by show A.units + 1 + dep sh < cLine; omega)).eq
      simpa using this
    by_cases hsz : its.toArray.size = its2.toArray.size
    · have s1 : its.toArray.size = xs.length := by simp; omega
      have s2 : xs.length = ys.length := by simp at hsz; omega
      have e : eqD (.lst xs) (.lst ys) = (List.range its.toArray.size).all (eqO xs ys) := by
        refine eqD_of ?_
        rw [all_eqD (xs := xs) (ys := ys) s1 s2 (fun j _ => eqO_iff)]
        constructor
        · intro h; rw [h]
        · intro h; cases h; rfl
      have rc : SeqAt.RcAt A s (.ref a) (.ref b) (eqD (.lst xs) (.lst ys)) := by rw [e]; exact SeqAt.RcAt.lists t1 t2 hsz (by omega) he
      refine ⟨rc, by rw [e]; exact SeqAt.RcNeAt.lists t1 t2 hsz (by omega) he, ?_⟩
      by_cases hab : a = b
      · subst hab
        have := rep_fn (.L sh) h1 h2 r1' r2'
        rw [this, eqD_self]
        exact SeqAt.EqAt.same _
      · exact SeqAt.EqAt.of_refs hab rc
    · have e : eqD (.lst xs) (.lst ys) = false := eqD_of (by
        constructor
        · intro h; cases h
        · intro h; cases h; simp at hsz; omega)
      have hne : (its.toArray.size != its2.toArray.size) = true := by simpa using hsz
      have rc : SeqAt.RcAt A s (.ref a) (.ref b) (eqD (.lst xs) (.lst ys)) := by rw [e]; exact SeqAt.RcAt.lists_lengths t1 t2 hne (by omega)
      refine ⟨rc, by rw [e]; exact SeqAt.RcNeAt.lists_lengths t1 t2 hne (by omega), ?_⟩
      refine SeqAt.EqAt.of_refs (fun hab => ?_) rc
      subst hab
      have := rep_fn (.L sh) h1 h2 r1' r2'
      cases this
      simp at hsz; omega
theorem eqs_sh (I : Inv X pins σ H s) (sB : Same B H) : ∀ (ss : List Sh) {A : Around} {xs ys : List D} {vs ws : List V} {us us' : List Value}, hass ss xs = true → hass ss ys = true → Reps X.K B vs xs → Reps X.K B ws ys → Vals vs us → Vals ws us' → A.units + deps ss < cLine →
    ∀ j (h1 : j < us.length) (h2 : j < us'.length), SeqAt.EqAt A s us[j] us'[j] (eqO xs ys j)
  | [], A, [], ys, _, _, _, _, h1, h2, .nil, r2, .nil, l2, hu, j, g1, g2 => absurd g1 (by simp)
  | [], A, x :: xs, ys, _, _, _, _, h1, h2, r1, r2, l1, l2, hu, j, g1, g2 => by simp [hass] at h1
  | s :: ss, A, [], ys, vs, ws, us, us', h1, h2, r1, r2, l1, l2, hu, j, g1, g2 => by simp [hass] at h1
  | s :: ss, A, x :: xs, [], vs, ws, us, us', h1, h2, r1, r2, l1, l2, hu, j, g1, g2 => by simp [hass] at h2
  | s :: ss, A, x :: xs, y :: ys, v :: vs, w :: ws, u :: us, u' :: us', h1, h2, .cons a1 b1, .cons a2 b2, .cons c1 d1, .cons c2 d2, hu, 0, g1, g2 => by
    have h1' : has s x = true := by simp [hass] at h1; exact h1.1
    have h2' : has s y = true := by simp [hass] at h2; exact h2.1
    have dd : deps (s :: ss) = max (dep s) (deps ss) := by simp [deps]
    have := (eq_sh I sB s (A := A) h1' h2' a1 a2 c1 c2 (by omega)).eq
    rw [eqO_at (xs := x :: xs) (ys := y :: ys) (j := 0) rfl rfl]
    exact this
  | s :: ss, A, x :: xs, y :: ys, v :: vs, w :: ws, u :: us, u' :: us', h1, h2, .cons a1 b1, .cons a2 b2, .cons c1 d1, .cons c2 d2, hu, j + 1, g1, g2 => by
    have h1' : hass ss xs = true := by simp [hass] at h1; exact h1.2
    have h2' : hass ss ys = true := by simp [hass] at h2; exact h2.2
    have dd : deps (s :: ss) = max (dep s) (deps ss) := by simp [deps]
    have := eqs_sh I sB ss (A := A) h1' h2' b1 b2 d1 d2 (by omega) j (by simpa using g1) (by simpa using g2)
    have e : eqO (x :: xs) (y :: ys) (j + 1) = eqO xs ys j := by
      rw [Bool.eq_iff_iff, eqO_iff, eqO_iff]; simp
    rw [e]
    exact this
end
/-- == and != of trees of one shape -/
def rEqD (K : PySem.W.Frag) (ng : Bool) : R2 := fun x y H Q => ∃ B d e sh, Rep K B x d ∧ Rep K B y e ∧ Same B H ∧ has sh d = true ∧ has sh e = true ∧ dep sh ≤ 50 ∧ Q (.bl (if ng then !eqD d e else eqD d e)) H
theorem op_eqD (hu : X.A.units + 64 < cLine) : OpR X (compareOp .Eq) (rEqD X.K false) := by
  intro pins s σ H x y v u Q I rx ry h
  obtain ⟨B, d, e, sh, r1, r2, sB, h1, h2, hd, q⟩ := h
  exact (eq_sh I sB sh (A := X.A) h1 h2 r1 r2 rx ry (by omega)).rc _ _ _ _ ⟨.bl _, H, I, rfl, q⟩
theorem op_neD (hu : X.A.units + 64 < cLine) : OpR X (compareOp .NotEq) (rEqD X.K true) := by
  intro pins s σ H x y v u Q I rx ry h
  obtain ⟨B, d, e, sh, r1, r2, sB, h1, h2, hd, q⟩ := h
  exact (eq_sh I sB sh (A := X.A) h1 h2 r1 r2 rx ry (by omega)).ne _ _ _ _ ⟨.bl _, H, I, rfl, q⟩
end
section
variable {K : PySem.W.Frag} {X : Cx} {a b : Expr} {ua ub : UE} {pos : Pos}
/-- x == y, x != y; the truth by a bool that is told by x = y -/
def uEq (ng : Bool) (ua ub : UE) : UE := fun ρ k => ua ρ fun x => ub ρ fun y => ∃ sh, has sh x = true ∧ has sh y = true ∧ dep sh ≤ 50 ∧ k (.bl (if ng then !eqD x y else eqD x y))
theorem refEq {ta tb : TE} {ng : Bool} (ha : RefE K ta ua) (hb : RefE K tb ub) : RefE K (tOp (rEqD K ng) ta tb) (uEq ng ua ub) :=
  ref2 ha hb fun x y k h R W B H σ ρ v w Q e rx ry q => by
    obtain ⟨sh, h1, h2, hd, hk⟩ := h
    exact ⟨B, x, y, sh, rx, ry, e.bh, h1, h2, hd, q _ _ B H hk e (Grow.refl _ _) (.bl _)⟩
theorem e_eq (hu : X.A.units + 64 < cLine) (ha : PE3 X a ua) (hb : PE3 X b ub) (hm : behindInMarks .Eq b = false) : PE3 X (.Compare a [.Eq] [b] pos) (uEq false ua ub) := by
  obtain ⟨_, h1, r1⟩ := ha; obtain ⟨_, h2, r2⟩ := hb
  exact ⟨_, pe_cmpR (op_eqD hu) h1 h2 hm, refEq r1 r2⟩
theorem t_ne (hu : X.A.units + 64 < cLine) (ha : PE3 X a ua) (hb : PE3 X b ub) (hm : behindInMarks .NotEq b = false) : PT3 X (.Compare a [.NotEq] [b] pos) (uB (uEq true ua ub)) := by
  obtain ⟨_, h1, r1⟩ := ha; obtain ⟨_, h2, r2⟩ := hb
  exact ⟨_, pt_cmpR (op_neD hu) h1 h2 hm, refB (refEq r1 r2)⟩
end
end L3

/-! From the hand layer's promises to promises over trees: script, bag, draws, the law itself. -/
namespace L3
open PySem L2
open PySem.Builtin.Int (intBits)
theorem law_def3 {K : PySem.W.Frag} {P : Program} {w : World} {mg : Str → Option Value} {base : Heap} {x qual : Str} {st : Stmt} {f : Addr} {fd : FuncData} {N ps : List Str} {lv n : Nat} {F : FS} (Fd : Fun K x qual st f fd) (S : FnScope N ps (defScope st)) (hn : ps.length = n)
    (hbody : ∀ (cdv : Value) (A : Around) (outer : List PySem.Env) (s : Shared) (H : Hp) (E : XK), Room lv (A.deeper (PyProof.Rows.envOfC qual (defScope st) s.heap.objs.size f cdv)) →
      ∃ u, PSs3 (cxOf CX0 P w K mg base N qual (defScope st) f cdv A outer s H E).nox (defBody st) u ∧ ∀ as k, as.length = n → F as k → u { nx := fun _ => k (.val .non), rt := k } (as ++ List.replicate (N.length - n) .no)) : FnOk P w K mg base CX0 (lv + 1) f fd ps (Con K n F) := by
  refine Fd.ok S (fun vs H Q E h => ?_) (fun cdv A outer s H vs Q E hr h => ?_)
  · obtain ⟨W, B, as, k, _, hl, _, _, _, ai, _⟩ := h
    rw [ai.length, hl, hn]
  · obtain ⟨W, B, as, k, hF, hl, hb, sB, hw, ai, q⟩ := h
    obtain ⟨u, ⟨t, ht, rt⟩, hu⟩ := hbody cdv A outer s H E hr
    have ev := Ev.start (N := N) (Nat.le_of_ble_eq_true hb) sB hw ai
    rw [hl] at ev
    refine ⟨t, ht, rt _ _ (hu as k hl hF) H W B H (L2.start N vs) _ ev ⟨fun ρ σ B' H' h e g => ?_, fun _ _ _ _ h => h.elim, fun _ _ _ _ h => h.elim, fun r v B' H' h e g z => q r v B' H' h ⟨e, g, z⟩⟩⟩
    exact q _ _ B' H' h ⟨e.toWd, g, .non⟩
def spLaw (K : PySem.W.Frag) : Sp := fun vs H Q _ => ∃ (a : Addr) (ns : List Int), vs = [.ref a] ∧ SqL K H a (ns.map V.int) ∧ ns.length ≤ 63 ∧ ∀ H', Q (.bl true) H'
def F_law : FS := fun as k => ∃ ns : List Int, as = [.val (.scr ns)] ∧ ns.length ≤ 63 ∧ k (.val (.bl true))
theorem law_con {K : PySem.W.Frag} {vs : List V} {H : Hp} {Q : VK} {E : XK} (h : spLaw K vs H Q E) : Con K 1 F_law vs H Q E := by
  obtain ⟨a, ns, rfl, hS, hl, q⟩ := h
  refine ⟨fun _ => False, H, [.val (.scr ns)], fun r => r = .val (.bl true), ⟨ns, rfl, hl, rfl⟩, rfl, rfl, Same.refl _, fun _ z => z.elim, .val (.scr hS) .nil, fun r v B' H' hr ex => ?_⟩
  subst hr
  have := ex.res
  rw [Rep.blV this]
  exact q H'
def spCell (K : PySem.W.Frag) : Sp := fun vs H Q _ => ∃ (a : Addr) (k : Int) (ns : List Int), vs = [.ref a, .int k] ∧ SqL K H a (ns.map V.int) ∧ 0 ≤ k ∧ ∀ z, Q (.int z) H
def F_cell : FS := fun as k => ∃ (ns : List Int) (i : Int), as = [.val (.scr ns), .val (.int i)] ∧ 0 ≤ i ∧ ∀ z : Int, k (.val (.int z))
theorem Wd.entry {H B : Hp} {W : Addr → Prop} (sB : Same B H) (hw : ∀ a, W a → B a = none ∧ Bag H a) : Wd H W B H :=
  ⟨fun _ _ h _ => h, sB, fun a h => (hw a h).1, fun a h => (hw a h).2, fun a h => by obtain ⟨x, y, q, _⟩ := (hw a h).2; rw [q]; simp⟩
theorem cell_con {K : PySem.W.Frag} {vs : List V} {H : Hp} {Q : VK} {E : XK} (h : Con K 2 F_cell vs H Q E) : spCell K vs H Q E := by
  obtain ⟨W, B, as, k, ⟨ns, i, rfl, hi, hk⟩, hl, hb, sB, hw, ai, q⟩ := h
  cases ai with
  | val r1 ai => cases ai with
    | val r2 ai =>
      cases ai
      obtain ⟨a, rfl, ha⟩ := r1.scrV
      cases r2.intV
      exact ⟨a, i, ns, rfl, sB.seq ha, hi, fun z => q _ _ B H (hk z) ⟨Wd.entry sB hw, Grow.refl _ _, .int z⟩⟩
def spBag : Sp := fun vs H Q _ => ∃ c : Int, vs = [.int c] ∧ ∀ (b : Addr) (x y : Int), H b = none → 0 ≤ x → 0 ≤ y → y < 2147483647 → Q (.ref b) (upd H b (.lst [.int x, .int y]))
def F_bag : FS := fun as k => ∃ c : Int, as = [.val (.int c)] ∧ k .bag
theorem bag_con {K : PySem.W.Frag} {vs : List V} {H : Hp} {Q : VK} {E : XK} (h : Con K 1 F_bag vs H Q E) : spBag vs H Q E := by
  obtain ⟨W, B, as, k, ⟨c, rfl, hk⟩, hl, hb, sB, hw, ai, q⟩ := h
  cases ai with
  | val r1 ai =>
    cases ai
    cases r1.intV
    refine ⟨c, rfl, fun b x y hn x0 y0 y1 => ?_⟩
    have wd := Wd.entry sB hw
    exact q .bag _ B _ hk ⟨wd.allocH hn _, Grow.refl _ _, b, rfl, hn, (wd.fresh hn).2.2, x, y, upd_same, x0, y0, y1⟩
/-- a draw below m, whatever the bag gives -/
def spDraw (lim : Nat) : Sp := fun vs H Q _ => ∃ (b : Addr) (m : Int), vs = [.ref b, .int m] ∧ Bag H b ∧ 0 < m ∧ intBits m ≤ lim ∧ ∀ (r : Int) (H' : Hp), Ext b H H' → Bag H' b → 0 ≤ r → r < m → Q (.int r) H'
def F_draw (lim : Nat) : FS := fun as k => ∃ m : Int, as = [.bag, .val (.int m)] ∧ 0 < m ∧ intBits m ≤ lim ∧ ∀ r : Int, 0 ≤ r → r < m → k (.val (.int r))
theorem draw_con {K : PySem.W.Frag} {lim : Nat} {vs : List V} {H : Hp} {Q : VK} {E : XK} (h : Con K 2 (F_draw lim) vs H Q E) : spDraw lim vs H Q E := by
  obtain ⟨W, B, as, k, ⟨m, rfl, m0, mb, hk⟩, hl, hb, sB, hw, ai, q⟩ := h
  cases ai with
  | bag hW ai => cases ai with
    | val r2 ai =>
      cases ai
      cases r2.intV
      rename_i b
      refine ⟨b, m, rfl, (hw b hW).2, m0, mb, fun r H' ex bg r0 r1 => ?_⟩
      have wd := Wd.entry sB hw
      refine q _ _ B H' (hk r r0 r1) ⟨⟨fun a o h1 h2 => ex a o (by rintro rfl; exact h2 hW) h1, fun a o h1 => ex a o (by rintro rfl; rw [(hw _ hW).1] at h1; cases h1) (sB a o h1), wd.wb, fun a z => ?_, wd.wr⟩, Grow.refl _ _, .int r⟩
      by_cases e : a = b
      · subst e; exact bg
      · obtain ⟨x, y, h1, h2⟩ := (hw a z).2
        exact ⟨x, y, ex a _ e h1, h2⟩
/-! ### steps of a reading -/
theorem iteT3 {c : Bool} {A B : Prop} (h : c = true) (a : A) : if c = true then A else B := by rw [if_pos h]; exact a
theorem iteF3 {c : Bool} {A B : Prop} (h : c = false) (b : B) : if c = true then A else B := by rw [h, if_neg Bool.false_ne_true]; exact b
theorem neIf {x y : D} {A B : Prop} (h1 : x ≠ y → A) (h2 : x = y → B) : if (!eqD x y) = true then A else B := by
  by_cases h : x = y
  · rw [eqD_iff.mpr h]; exact h2 h
  · have : eqD x y = false := by
      cases q : eqD x y with
      | false => rfl
      | true => exact absurd (eqD_iff.mp q) h
    rw [this]; exact h1 h
theorem at3 {u : US} {U : UEnds} {ρ r : List Sl} (e : ρ = r) (h : u U r) : u U ρ := by rw [e]; exact h
theorem pass4 {s t : US} {U : UEnds} {ρ : List Sl} (first : ∀ N : List Sl → Prop, N ρ → s { U with nx := N } ρ) (rest : t U ρ) : uSeq s t U ρ := first (t U) rest
theorem mid4 {s t : US} {U : UEnds} {ρ : List Sl} (I : List Sl → Prop) (rest : ∀ ρ', I ρ' → t U ρ') (first : ∀ N : List Sl → Prop, (∀ ρ', I ρ' → N ρ') → s { U with nx := N } ρ) : uSeq s t U ρ := first _ rest
theorem forR_ints {s : US} {U : UEnds} {n : Nat} (I : List Sl → Prop) : ∀ {ds : List D} {ρ : List Sl}, I ρ → (∀ d ∈ ds, ∃ c : Int, d = .int c) →
    (∀ (c : Int) ρ, I ρ → ∀ N : List Sl → Prop, (∀ r, I r → N r) → s { U with nx := N, ct := N, bk := U.nx } (ρ.set n (.val (.int c)))) → (∀ ρ, I ρ → U.nx ρ) → forR (ugName n) s U ds ρ
  | [], ρ, h0, _, _, h2 => h2 ρ h0
  | d :: ds, ρ, h0, hd, h1, h2 => by
    obtain ⟨c, rfl⟩ := hd d List.mem_cons_self
    exact h1 c ρ h0 _ fun r hr => forR_ints I hr (fun e he => hd e (List.mem_cons_of_mem _ he)) h1 h2
theorem cutL_length {α : Type} (xs : List α) (lo hi : Option Int) : (cutL xs lo hi).length ≤ xs.length := by
  unfold cutL
  rw [List.length_take, List.length_drop]
  omega
theorem cutL_mem {α : Type} {xs : List α} {lo hi : Option Int} {x : α} (h : x ∈ cutL xs lo hi) : x ∈ xs := List.mem_of_mem_drop (List.mem_of_mem_take h)
theorem law_items {z : Int} {ns : List Int} {lo hi : Option Int} : ∀ d ∈ [D.int z] ++ cutL (ns.map D.int) lo hi, ∃ c : Int, d = .int c := fun d hd => by
  rcases List.mem_append.mp hd with h | h
  · exact ⟨z, by simpa using h⟩
  · obtain ⟨i, _, e⟩ := List.mem_map.mp (cutL_mem h)
    exact ⟨i, e.symm⟩
theorem law_len {z : Int} {ns : List Int} {lo hi : Option Int} (h : ns.length ≤ 63) : [D.int z].length + (cutL (ns.map D.int) lo hi).length ≤ sizeLine := by
  have h1 := cutL_length (ns.map D.int) lo hi
  rw [List.length_map] at h1
  have : 64 ≤ sizeLine := by decide
  simp only [List.length_singleton]
  omega
end L3

/-! A list of one's own read where it stands: in, ==, isinstance; its items walked. -/
namespace L3
open PySem L2
section
variable {K : PySem.W.Frag} {X : Cx} {a b e : Expr} {ua ub u : UE} {pos p : Pos}
end
/-! ### the free names of a comprehension -/
section
variable {X : Cx}
theorem fsub_of {cl cs : List (Str × Addr)} (h : ∀ p ∈ cl, cs.lookup p.1 = some p.2) : ∀ y c, cl.lookup y = some c → cs.lookup y = some c := fun y c e => h (y, c) (PySem.mem_of_lookup e)
theorem fhas_b {names : List (Str × NameKind)} {cl : List (Str × Addr)} (h : (names.all fun p => !(p.2 == .cell || p.2 == .free) || (cl.lookup p.1).isSome) = true) : ∀ y, (names.lookup y = some .cell ∨ names.lookup y = some .free) → ∃ c, cl.lookup y = some c := fun y e => by
  have key : ∀ k : NameKind, (k == .cell || k == .free) = true → names.lookup y = some k → ∃ c, cl.lookup y = some c := fun k hk e => by
    have q := List.all_eq_true.mp h (y, k) (PySem.mem_of_lookup e)
    have q : (!(k == .cell || k == .free) || (cl.lookup y).isSome) = true := q
    rw [hk] at q
    exact Option.isSome_iff_exists.mp (by simpa using q)
  rcases e with e | e
  · exact key _ rfl e
  · exact key _ rfl e
end
end L3

/-! A comprehension of one clause, any target, perhaps a test, its value used at once or given to a name. -/
namespace L2
open PySem PySem.Spec PyProof.Rows
/-- the tests of a clause -/
def PIfs (X : Cx) (ifs : List Expr) (tt : TT) : Prop := ∀ (pins : List (Addr × Obj)) (s : Shared) (σ : St) (H : Hp) (Q : Bool → Hp → Prop), Inv X pins σ H s → tt σ H Q →
  wpAny (model X.prog X.w) X.A (forIn ifs true fun t r => if r = true then do let z ← isTrue t X.env (eval t X.env); pure (ForInStep.yield z) else pure (ForInStep.yield r)) (TP X pins σ Q) X.xe s
def tTrue : TT := fun _ H Q => Q true H
theorem pifs_nil {X : Cx} : PIfs X [] tTrue := fun _ _ _ H _ I h => wpAny_tests_nil ⟨H, I, h⟩
theorem pifs_one {X : Cx} {c : Expr} {tt : TT} (h : PT X c tt) : PIfs X [c] tt := fun pins s σ H Q I q => wpAny_tests_one (h pins s σ H Q I q)
theorem comp_turns {P : Program} {w : World} {A : Around} {R : Result → Shared → Prop} {s : Shared} {elt tg src : Expr} {ifs : List Expr} {sc : Scope} {ps : Pos} {itv acc : Value} {env : PySem.Env} (Iv : Nat → Shared → Prop) (n : Nat) (h0 : Iv n s)
    (turn : ∀ n s, Iv n s → wpAny (model P w) A (pyNext itv) (fun r s1 => match r with
      | none => R (.ok .next) s1
      | some v => wpAny (model P w) A (letOwnedTupleGo tg itv v) (fun _ sg => wpAny (model P w) A (assign tg env v) (fun _ s2 =>
          wpAny (model P w) A (forIn ifs true fun t r => if r = true then do let z ← isTrue t env (eval t env); pure (ForInStep.yield z) else pure (ForInStep.yield r)) (fun z s3 =>
            if z = true then wpAny (model P w) A (eval elt env) (fun y s4 => wpAny (model P w) A (call (.builtin "list.append") [acc, y]) (fun _ s5 => ∃ m, m < n ∧ Iv m s5) (notedBy (model P w) A env fun e s' => R (.error e) s') s4) (notedBy (model P w) A env fun e s' => R (.error e) s') s3
            else ∃ m, m < n ∧ Iv m s3) (notedBy (model P w) A env fun e s' => R (.error e) s') s2) (notedBy (model P w) A env fun e s' => R (.error e) s') sg) (notedBy (model P w) A env fun e s' => R (.error e) s') s1) (notedBy (model P w) A env fun e s' => R (.error e) s') s) :
    codeAny (model P w) A (.compLoop (.ListComp elt [⟨tg, src, ifs, 0⟩] sc ps) 0 itv acc env) R s := by
  refine codeAny_loop rfl Iv (fun k s' hv => ?_) n h0
  show wpAny _ A ((compTurn (.ListComp elt [⟨tg, src, ifs, 0⟩] sc ps) 0 itv acc env).onRaise (fun z => do noteFrame z env; theTreesLotGoes z)) _ _ s'
  rw [compTurn_list]
  refine wpAny_noted (wpAny_bind (wpAny_standAt (wpAny_bind (wpAny_mono (turn k s' hv) (fun r s1 h1 => ?_) fun _ _ z => z))))
  cases r with
  | none => exact wpAny_pure h1
  | some v =>
    refine wpAny_bind (wpAny_mono h1 (fun _ sg hg => wpAny_bind (wpAny_mono hg (fun _ s2 h2 => wpAny_bind (wpAny_mono h2 (fun z s3 h3 => ?_) fun _ _ q => q)) fun _ _ q => q)) fun _ _ q => q)
    cases z with
    | false => exact wpAny_pure ⟨rfl, h3⟩
    | true => exact wpAny_bind (wpAny_bind (wpAny_mono h3 (fun y s4 h4 => wpAny_bind (wpAny_mono h4 (fun _ s5 h5 => wpAny_pure (wpAny_pure ⟨rfl, h5⟩)) fun _ _ q => q)) fun _ _ q => q))
/-- what a comprehension's block asks, the inner names' state along -/
def CompG (J : It) (g : TG) (tt : TT) (te : TE) (σ0 : St) (D : Addr) (H1 : Hp) (Q : VK) : Prop := ∃ W : Nat → Nat → St → Hp → Prop, (∃ m, W 0 m σ0 (upd H1 D (.lst []))) ∧ ∀ i m σ H, W i m σ H →
  (J.stop i H ∧ Q (.ref D) H) ∨ (J.go i H ∧ ∀ x H', J.yld i H x H' → g x σ H' fun σ2 H2 => tt σ2 H2 fun b H3 => if b = true then te σ2 H3 fun y H4 => ∃ ys, H4 D = some (.lst ys) ∧ ys.length < sizeLine ∧ ∃ m', m' < m ∧ W (i + 1) m' σ2 (upd H4 D (.lst (ys ++ [y]))) else ∃ m', m' < m ∧ W (i + 1) m' σ2 H3)
def tCompG (wi : TI) (g : TG) (tt : TT) (te : TE) (nt : Nat) (js : List Nat) : TE := fun σ H Q => wi σ H fun J H1 => ∀ D, H1 D = none → CompG J g tt te (List.replicate nt none ++ freeV σ js) D H1 Q
section
variable {X : Cx}
/-- what the names within ask of the outer def -/
structure FreeOk (X : Cx) (scope : Scope) (cl : List (Str × Addr)) (fr : List Str) (js : List Nat) : Prop where
  clos : closureFor scope X.env = pure cl
  cell : ∀ y ∈ scope.names, y.2 ≠ .cell
  kind : scope.kind = .function
  names : ∀ y ∈ scope.names, y.2 = .local → scope.names.lookup y.1 = some .local
  sub : ∀ y c, cl.lookup y = some c → X.env.cells.lookup y = some c
  has : ∀ y, ((relabel scope X.env).names.lookup y = some .cell ∨ (relabel scope X.env).names.lookup y = some .free) → ∃ c, cl.lookup y = some c
  frn : ∀ (i : Nat) (y : Str), fr[i]? = some y → ∃ j : Nat, js[i]? = some j ∧ X.N[j]? = some y ∧ X.env.kindOf y = some .cell ∧ ((relabel scope X.env).names.lookup y = some .cell ∨ (relabel scope X.env).names.lookup y = some .free) ∧ ∃ c, cl.lookup y = some c
  len : js.length = fr.length
/-- the block runs; what is made of the list behind it is left open (RR) -/
theorem comp_block {elt iter tg : Expr} {ifs : List Expr} {pos : Pos} {scope : Scope} {cl : List (Str × Addr)} {ts fr : List Str} {js : List Nat} {wi : TI} {g : TG} {tt : TT} {te : TE} {use : Option (Value → Sem Unit)} {RQ : Value → Shared → Prop} {QE : VK}
    (hi : PI X tg iter wi) (hg : ∀ C s H ex, PG (compCx X (ts ++ fr) scope cl C s H ex) tg g) (hts : ∀ C s H ex, PIfs (compCx X (ts ++ fr) scope cl C s H ex) ifs tt) (helt : ∀ C s H ex, PE (compCx X (ts ++ fr) scope cl C s H ex) elt te)
    (F : FreeOk X scope cl fr js) (hc : X.calm = true) (hs : ∀ v, foldedSetIterable iter X.env v = pure v)
    {pins : List (Addr × Obj)} {s : Shared} {σ : St} {H : Hp} (I : Inv X pins σ H s) (h : tCompG wi g tt te ts.length js σ H QE) (newAcc : Sem Value) (hnew : newAcc = newList []) (pp : Pos)
    (hR : ∀ (D C : Addr) (H5 : Hp) (s6 : Shared) (m : Str → Option Value), s6.heap.Ns C m → H5 C = none → C ≠ X.env.locals → X.s₀.heap.objs.size ≤ C → (∀ x c, X.env.cells.lookup x = some c → c ≠ C) → (∀ p ∈ X.pn ++ pins, p.1 ≠ C) → C ∉ X.fs →
      (∀ h' : Heap, (∀ b u, b ≠ C → s6.heap.get? b = some u → h'.get? b = some u) → Inv X pins σ H5 { s6 with heap := h' }) → QE (.ref D) H5 → compPost (model X.prog X.w) X.A X.xe use RQ (.ref D) C (.ok .next) s6) :
    wpAny (model X.prog X.w) X.A (comprehension (.ListComp elt [⟨tg, iter, ifs, 0⟩] scope pos) scope X.env pp newAcc false (eval iter X.env) use) RQ X.xe s := by
  refine wpAny_comprehension_free (use := use) rfl hs F.clos F.kind F.names (thn (hi pins s σ H _ I h) fun xv s1 h1 => thn h1 fun itv s2 h2 => ?_)
  obtain ⟨it, fp, tn, J, H2, rfl, I2, T, st2, f2, h2⟩ := h2
  have hD : H2 s2.heap.objs.size = none := I2.fresh
  obtain ⟨W, ⟨m0, w0⟩, turn⟩ := h2 _ hD
  rw [hnew]
  refine wpAny_newObj_type ?_
  have I3 : Inv X pins σ (upd H2 s2.heap.objs.size (.lst [])) { s2 with heap := s2.heap.push { cls := .type "list", data := .seq ([] : List Value).toArray } } := I2.lnew (t' := s2.toks) (its := []) .nil (by show 0 ≤ sizeLine; decide)
  generalize hs3 : ({ s2 with heap := s2.heap.push { cls := .type "list", data := .seq ([] : List Value).toArray } } : Shared) = s3 at I3
  have e3 : s3.heap = s2.heap.push { cls := .type "list", data := .seq ([] : List Value).toArray } := by rw [← hs3]
  generalize hH3 : upd H2 s2.heap.objs.size (.lst []) = H3 at I3 w0
  generalize hDD : s2.heap.objs.size = D at hD hH3 w0 turn
  have k3 : ∀ b o, s2.heap.get? b = some o → s3.heap.get? b = some o := fun b o e => by rw [e3]; exact Heap.get?_push_of_some _ e
  have f3 : ∀ b ∈ fp, FpOk X pins H3 b := fun b hb => by
    obtain ⟨o, ho, _⟩ := T.obj _ _ st2 b hb
    have lt := Heap.lt_size ho
    refine ⟨?_, (f2 b hb).2⟩
    rw [← hH3, upd_ne (by rw [← hDD]; exact Nat.ne_of_lt lt)]
    exact (f2 b hb).1
  refine wpAny_newFunctionEnv F.cell (by intro y hy; simp at hy) (fun h1 hns hsb => ?_) F.kind
  have hC3 : s3.heap.get? s3.heap.objs.size = none := Heap.get?_none_of_le (Nat.le_refl _)
  have k4 : ∀ b o, s3.heap.get? b = some o → h1.get? b = some o := fun b o e => hsb.extBut b o (Nat.ne_of_lt (Heap.lt_size e)) (Heap.get?_push_of_some _ e)
  show codeAny (model X.prog X.w) X.A (.compStart (.ListComp elt [⟨tg, iter, ifs, 0⟩] scope pos) 0 (.ref it) (.ref D) (compEnvC scope cl s3.heap.objs.size X.env)) (compPost (model X.prog X.w) X.A X.xe use RQ (.ref D) s3.heap.objs.size) _
  have ok : (compCx X (ts ++ fr) scope cl s3.heap.objs.size s3 H3 fp).Ok := by
    refine ⟨I3.ok.mod, F.kind, I3.ok.glob, I3.ok.blt, Nat.le_refl _, fun y z c e1 e2 => I3.ok.inj y z c (F.sub _ _ e1) (F.sub _ _ e2), fun y hy => F.has y hy, fun y c z => absurd z Bool.false_ne_true, I3.ok.hd, I3.ok.frames, .inl rfl, fun b hb => ?_, I3.bs, Nat.le_trans I3.ok.bsz I3.sz,
      fun b o e hb => ?_, fun b hb hf => ?_, I3.stack, I3.stkFree⟩
    · obtain ⟨o, ho, _⟩ := T.obj _ _ st2 b hb
      exact ⟨Nat.ne_of_lt (Heap.lt_size (k3 b o ho)), fun y c e => (f3 b hb).2.2.2.2.1 y c (F.sub _ _ e)⟩
    · obtain ⟨_, _, _, z, _⟩ := f3 b hb
      rcases z with z | z
      · exact I3.ok.noex b o e z
      · exact absurd (Nat.lt_of_lt_of_le (Heap.lt_size (I3.ok.bs b o e).1) z) (Nat.lt_irrefl _)
    · rcases List.mem_cons.mp (I3.stkSub b hf) with z | z
      · exact (f3 b hb).2.1 z
      · exact (f3 b hb).2.2.1 z
  have frV : ∀ (hh : Heap), (∀ b u, s3.heap.get? b = some u → hh.get? b = some u) → ∀ (i : Nat) (y : Str) (v : V), fr[i]? = some y → (freeV σ js)[i]? = some (some v) → ∃ u, RelV v u ∧ ∀ m, Look (compEnvC scope cl s3.heap.objs.size X.env) hh m y u := fun hh kk i y v e1 e2 => by
    obtain ⟨j, ej, eN, hk, hkin, c, hcl⟩ := F.frn i y e1
    have e2' : σ[j]? = some (some v) := by
      unfold freeV at e2
      rw [List.getElem?_map, ej, Option.map_some] at e2
      have e2 := Option.some.inj e2
      cases q : σ[j]? with
      | none => rw [q] at e2; simp at e2
      | some z => rw [q] at e2; simpa using e2
    obtain ⟨m, hn, hl⟩ := I3.loc
    obtain ⟨u, r, l⟩ := hl j y v eN e2' (.inr (.inl hk))
    refine ⟨u, r, fun m' => .inr ⟨hkin, c, hcl, ?_⟩⟩
    rcases l with ⟨z, _⟩ | ⟨_, c', hc', hce⟩
    · rw [hk] at z; cases z
    · have e := F.sub _ _ hcl
      rw [hc'] at e; cases e
      obtain ⟨oo, q1, q2⟩ := hce
      exact ⟨oo, kk _ _ q1, q2⟩
  have I4 : Inv (compCx X (ts ++ fr) scope cl s3.heap.objs.size s3 H3 fp) [] (List.replicate ts.length none ++ freeV σ js) H3 { s3 with heap := h1, toks := s3.toks + ([] : List (Str × Value)).length } := by
    refine ⟨ok, rfl, I3.bare, Un.kept k4, ⟨_, hns, fun i y v e1 e2 e3 => ?_⟩, fun y c e => ?_, I3.fresh, fun y c e => I3.freeC y c (F.sub _ _ e), fun p hp => absurd (show p ∈ ([] : List (Addr × Obj)) from hp) (by simp), I3.hok.kept k4, ?_⟩
    · by_cases hlt : i < ts.length
      · rw [List.getElem?_append_left (by simpa using hlt), List.getElem?_replicate, if_pos hlt] at e2
        cases e2
      · have e1 : (ts ++ fr)[i]? = some y := e1
        rw [List.getElem?_append_right (by omega)] at e1
        rw [List.getElem?_append_right (by simp; omega), List.length_replicate] at e2
        obtain ⟨u, r, l⟩ := frV h1 k4 _ y v e1 e2
        exact ⟨u, r, l _⟩
    · obtain ⟨v, oo, q1, q2⟩ := I3.cell y c (F.sub _ _ e)
      exact ⟨v, oo, k4 _ _ q1, q2⟩
    · show _ = (ts ++ fr).length
      rw [List.length_append, List.length_append, List.length_replicate]
      unfold freeV
      rw [List.length_map, F.len]
  have stat : ∀ {H' : Hp}, (∀ b ∈ fp, H' b = none) → ∀ b ∈ fp, FpOk (compCx X (ts ++ fr) scope cl s3.heap.objs.size s3 H3 fp) [] H' b := fun hn b hb => by
    obtain ⟨o, ho, _⟩ := T.obj _ _ st2 b hb
    exact ⟨hn b hb, (ok.exf b hb).1, ok.exfs b hb, .inl hb, (ok.exf b hb).2, fun p hp => absurd (show p ∈ ([] : List (Addr × Obj)) from hp) (by simp)⟩
  have loop : ∀ s4 : Shared, s4 = { s3 with heap := h1, toks := s3.toks + ([] : List (Str × Value)).length } →
      codeAny (model X.prog X.w) X.A (.compLoop (.ListComp elt [⟨tg, iter, ifs, 0⟩] scope pos) 0 (.ref it) (.ref D) (compEnvC scope cl s3.heap.objs.size X.env)) (compPost (model X.prog X.w) X.A X.xe use RQ (.ref D) s3.heap.objs.size) s4 := by
    intro s4 e4
    rw [← e4] at I4
    have st4 : tn 0 s4.heap := T.keep _ _ _ st2 fun b _ o e => by rw [e4]; exact k4 b o (k3 b o e)
    refine comp_turns (fun n s' => ∃ i σ' H', Inv (compCx X (ts ++ fr) scope cl s3.heap.objs.size s3 H3 fp) [] σ' H' s' ∧ tn i s'.heap ∧ (∀ b ∈ fp, H' b = none) ∧ W i n σ' H') m0 ⟨0, _, H3, I4, st4, fun b hb => (f3 b hb).1, w0⟩ ?_
    rintro n s5 ⟨i, σ5, H5, I5, st5, fr5, w5⟩
    rcases turn i n σ5 H5 w5 with ⟨stop, q⟩ | ⟨go, step⟩
    · refine thn (T.done (compCx X (ts ++ fr) scope cl s3.heap.objs.size s3 H3 fp) rfl rfl rfl hc i [] s5 σ5 H5 _ I5 (stat fr5) st5 stop) fun r s6 ⟨hr, I6⟩ => ?_
      subst hr
      obtain ⟨m, hn, _⟩ := id I6.loc
      refine hR D s3.heap.objs.size H5 s6 m hn I6.free (Nat.ne_of_gt I3.lt) I3.sz (fun y c e z => ?_) (fun p hp z => ?_) (I3.nofs (Nat.le_refl _)) (fun h' kb => ?_) q
      · obtain ⟨v, oo, q1, q2⟩ := I3.cell y c e
        exact absurd (Heap.lt_size q1) (by rw [z]; exact Nat.lt_irrefl _)
      · exact absurd (Heap.lt_size (I3.pin p hp).1) (by rw [z]; exact Nat.lt_irrefl _)
      · refine I3.call' (s' := { s6 with heap := h' }) (ch := fp) I6.os ((show Un (frs X.stack) fp H3 H5 s3.heap s6.heap from I6.base).but hC3 kb) (I6.hok.but I6.free kb) I6.bare (fun b hb => ?_)
        obtain ⟨_, z1, _, z3, z4, z5⟩ := f3 b hb
        exact ⟨z3, z1, z4, z5⟩
    · refine thn (T.item (compCx X (ts ++ fr) scope cl s3.heap.objs.size s3 H3 fp) rfl rfl rfl hc i [] s5 σ5 H5 _ I5 (stat fr5) st5 go) fun r s6 ⟨u, hr, h6⟩ => ?_
      subst hr
      refine thn h6 fun _ s7 ⟨v, H7, I7, r7, y7, st7, fr7⟩ => ?_
      have I7' := I7.pinned (stat fr7) (T.obj _ _ st7)
      have back : ∀ {s9 : Shared} {σ9 : St} {H9 : Hp} {n' : Nat}, Inv (compCx X (ts ++ fr) scope cl s3.heap.objs.size s3 H3 fp) ([] ++ pinsAt fp s7.heap) σ9 H9 s9 → W (i + 1) n' σ9 H9 → ∃ i σ' H', Inv (compCx X (ts ++ fr) scope cl s3.heap.objs.size s3 H3 fp) [] σ' H' s9 ∧ tn i s9.heap ∧ (∀ b ∈ fp, H' b = none) ∧ W i n' σ' H' := fun {s9 σ9 H9 n'} I9 w9 => by
        refine ⟨i + 1, σ9, H9, I9.unpinned (pins := []), T.keep _ _ _ st7 fun b hb oo ee => (I9.pin (b, oo) (List.mem_append_right _ (List.mem_append_right _ (mem_pinsAt hb ee)))).1, fun b hb => ?_, w9⟩
        obtain ⟨oo, ee, _⟩ := T.obj _ _ st7 b hb
        exact (I9.pin (b, oo) (List.mem_append_right _ (List.mem_append_right _ (mem_pinsAt hb ee)))).2.1
      refine wpAny_mono (hg s3.heap.objs.size s3 H3 fp _ s7 σ5 H7 v u _ I7' r7 (step v H7 y7)) (fun _ s8 ⟨σ8, H8, I8, q8⟩ => ?_) (fun _ _ z => z.elim)
      refine wpAny_mono (hts s3.heap.objs.size s3 H3 fp _ s8 σ8 H8 _ I8 q8) (fun b s9 ⟨H9, I9, q9⟩ => ?_) (fun _ _ z => z.elim)
      cases b with
      | false =>
        rw [if_neg Bool.false_ne_true] at q9 ⊢
        obtain ⟨m', lm, w9⟩ := q9
        exact ⟨m', lm, back I9 w9⟩
      | true =>
        rw [if_pos rfl] at q9 ⊢
        refine wpAny_mono (helt s3.heap.objs.size s3 H3 fp _ s9 _ H9 _ I9 q9) (fun yv s10 ⟨y, H10, I10, r10, ys, e10, l10, m', lm, w10⟩ => ?_) (fun _ _ z => z.elim)
        have mt := mt_append (X := compCx X (ts ++ fr) scope cl s3.heap.objs.size s3 H3 fp) _ s10 _ H10 (.ref D) [y] (.ref D) [yv] (fun _ H' => H' = upd H10 D (.lst (ys ++ [y]))) I10 rfl (.cons r10 .nil) ⟨D, ys, y, rfl, rfl, e10, l10, rfl⟩
        refine wpAny_mono mt (fun _ s11 ⟨_, H11, I11, _, e11⟩ => ?_) (fun _ _ z => z.elim)
        subst e11
        exact ⟨m', lm, back I11 w10⟩
  exact codeAny_compStart_list (loop _ rfl) (T.self _ 0 _ _ _ (T.keep _ _ _ st2 fun b _ o e => k4 b o (k3 b o e)) (loop _ rfl))
theorem pe_compG {elt iter tg : Expr} {ifs : List Expr} {pos : Pos} {scope : Scope} {cl : List (Str × Addr)} {ts fr : List Str} {js : List Nat} {wi : TI} {g : TG} {tt : TT} {te : TE}
    (hi : PI X tg iter wi) (hg : ∀ C s H ex, PG (compCx X (ts ++ fr) scope cl C s H ex) tg g) (hts : ∀ C s H ex, PIfs (compCx X (ts ++ fr) scope cl C s H ex) ifs tt) (helt : ∀ C s H ex, PE (compCx X (ts ++ fr) scope cl C s H ex) elt te)
    (F : FreeOk X scope cl fr js) (hc : X.calm = true) (hs : ∀ v, foldedSetIterable iter X.env v = pure v) : PE X (.ListComp elt [⟨tg, iter, ifs, 0⟩] scope pos) (tCompG wi g tt te ts.length js) := by
  intro pins s σ H Q I h
  rw [eval_ListComp]
  refine comp_block hi hg hts helt F hc hs I h _ rfl _ fun D C H5 s6 m hn _ _ _ _ _ _ iv q => ⟨m, hn, fun h' hs' => ⟨.ref D, H5, iv h' fun b u hb e => hs'.extBut b u hb e, rfl, q⟩⟩
theorem ps_compA {elt iter tg : Expr} {ifs : List Expr} {pos : Pos} {scope : Scope} {cl : List (Str × Addr)} {ts fr : List Str} {js : List Nat} {wi : TI} {g : TG} {tt : TT} {te : TE} {i : Nat} {y : Str} {py spos : Pos}
    (hN : X.N.Nodup) (hiN : X.N[i]? = some y) (hy : X.env.scope.names.lookup y = some .local)
    (hi : PI X tg iter wi) (hg : ∀ C s H ex, PG (compCx X (ts ++ fr) scope cl C s H ex) tg g) (hts : ∀ C s H ex, PIfs (compCx X (ts ++ fr) scope cl C s H ex) ifs tt) (helt : ∀ C s H ex, PE (compCx X (ts ++ fr) scope cl C s H ex) elt te)
    (F : FreeOk X scope cl fr js) (hc : X.calm = true) (hs : ∀ v, foldedSetIterable iter X.env v = pure v) (hsw : swapsWith (.ListComp elt [⟨tg, iter, ifs, 0⟩] scope pos) (some (.Name y py)) spos.line X.env = pure true) :
    PS X (.Assign [.Name y py] (.ListComp elt [⟨tg, iter, ifs, 0⟩] scope pos) spos) (tAsg (tCompG wi g tt te ts.length js) (gName i)) := by
  intro pins s σ H D I h
  rw [exec_Assign_Name_used _ _ _ _ hsw]
  refine wpAny_bind (wpAny_standAt (wpAny_bind ?_))
  show wpAny _ X.A (do let _ ← comprehension (.ListComp elt [⟨tg, iter, ifs, 0⟩] scope pos) scope X.env _ (newList []) false (eval iter X.env) (some (assign (.Name y py) X.env))) _ _ s
  refine wpAny_bind (thn (comp_block (RQ := fun _ s' => ∃ σ' H', Inv X pins σ' H' s' ∧ D.nx σ' H') (QE := fun v H1 => gName i v σ H1 D.nx) hi hg hts helt F hc hs I h _ rfl _ ?_) fun _ s' q => wpAny_pure (wpAny_pure q))
  intro L C H5 s6 m hn hf hL hsz hcl hpn hfs iv q
  obtain ⟨o, es, ep, ho, hd, r⟩ := id hn
  have I6 : Inv X pins σ H5 s6 := iv s6.heap fun b u _ e => e
  have I6p : Inv X (pins ++ [(C, o)]) σ H5 s6 := I6.pins_of fun p hp => by
    rcases List.mem_append.mp hp with z | z
    · exact I6.pin p (List.mem_append_right _ z)
    · have z : p = (C, o) := by simpa using z
      subst z
      exact ⟨ho, hf, hL, hfs, fun v z => by rw [hd] at z; cases z⟩
  show wpAny _ X.A (assign (.Name y py) X.env (.ref L)) _ _ _
  refine wpAny_assign_Name (store_ok I6p hN hiN (.inl hy) (v := .ref L) rfl (fun s7 I7 => ?_) (.inr hy))
  have h7 : s7.heap.get? C = some o := (I7.pin (C, o) (List.mem_append_right _ (List.mem_append_right _ (List.mem_singleton.mpr rfl)))).1
  refine ⟨m, ⟨o, es, ep, h7, hd, r⟩, fun h' hs' => ⟨_, H5, ?_, q⟩⟩
  exact I7.unpinned.turned (t' := s7.toks) (fun b u hb e => hs'.extBut b u hb e) hf hL (.inr hsz) hcl hpn
end
end L2

/-! Comprehensions over trees: any target, perhaps a test, given to a name. -/
namespace L3
open PySem L2
def compG (g : UG) (ut : UT) (u : UE) : List D → List Sl → (List D → Prop) → Prop
  | [], _, k => k []
  | d :: ds, ρ, k => g d ρ fun ρ1 => ut ρ1 fun b => if b = true then u ρ1 fun y => compG g ut u ds ρ1 fun ys => k (y :: ys) else compG g ut u ds ρ1 k
def utTrue : UT := fun _ k => k true
def uCompG (w : UL) (g : UG) (ut : UT) (u : UE) (nt : Nat) (js : List Nat) : UL := fun ρ k => w ρ fun ds => ds.length ≤ sizeLine ∧ compG g ut u ds (List.replicate nt .no ++ js.map (frS ρ)) k
section
variable {K : PySem.W.Frag} {X : Cx} {e : Expr} {es : List Expr} {u : UE} {w : UL} {pos p : Pos}
theorem frS_cases {ρ : List Sl} (j : Nat) : frS ρ j = .no ∨ (∃ d, frS ρ j = .val d ∧ ρ[j]? = some (.val d)) ∨ (frS ρ j = .bag ∧ ρ[j]? = some .bag) := by
  unfold frS
  split
  · rename_i d hj; exact .inr (.inl ⟨d, rfl, hj⟩)
  · rename_i hj; exact .inr (.inr ⟨rfl, hj⟩)
  · exact .inl rfl
/-- the state within a comprehension, at its beginning -/
theorem Ev.within {R : Hp} {W : Addr → Prop} {B H : Hp} {σ : St} {ρ : List Sl} (e : Ev K R W B H σ ρ) (nt : Nat) {js : List Nat} (hnd : js.Nodup) :
    Ev K H (fun a => ∃ j, j ∈ js ∧ σ[j]? = some (some (.ref a)) ∧ ρ[j]? = some .bag) B H (List.replicate nt none ++ freeV σ js) (List.replicate nt .no ++ js.map (frS ρ)) := by
  have bg : ∀ (a : Addr) (j : Nat), σ[j]? = some (some (V.ref a)) → ρ[j]? = some Sl.bag → B a = none ∧ Bag H a := fun a j z1 z2 => by
    obtain ⟨c, c1, _, c3, c4⟩ := e.bagAt z2
    rw [z1] at c1; cases c1; exact ⟨c3, c4⟩
  refine ⟨⟨fun _ _ z _ => z, e.bh, fun a ⟨j, _, z1, z2⟩ => (bg a j z1 z2).1, fun a ⟨j, _, z1, z2⟩ => (bg a j z1 z2).2, fun a ⟨j, _, z1, z2⟩ => ?_⟩, ?_, fun n kk hk => ?_, fun n m a m1 m2 => ?_⟩
  · obtain ⟨x, y, q, _⟩ := (bg a j z1 z2).2
    rw [q]; simp
  · unfold freeV; simp
  · by_cases hlt : n < nt
    · rw [List.getElem?_append_left (by simpa using hlt), List.getElem?_replicate, if_pos hlt] at hk
      cases hk; trivial
    · rw [List.getElem?_append_right (by simp; omega), List.length_replicate, List.getElem?_map] at hk
      cases qj : js[n - nt]? with
      | none => rw [qj] at hk; cases hk
      | some j =>
        rw [qj] at hk
        have hk := Option.some.inj hk
        have eo : ((List.replicate nt none ++ freeV σ js)[n]?).join = (σ[j]?).join := by
          rw [List.getElem?_append_right (by simp; omega), List.length_replicate]
          unfold freeV
          rw [List.getElem?_map, qj]
          rfl
        rw [eo, ← hk]
        rcases frS_cases (ρ := ρ) j with z | ⟨dd, z, hj⟩ | ⟨z, hj⟩ <;> rw [z]
        · trivial
        · obtain ⟨v, v1, v2⟩ := e.ok j _ hj
          exact ⟨v, v1, v2⟩
        · obtain ⟨c, c1, _, c3, c4⟩ := e.ok j _ hj
          exact ⟨c, c1, .inl ⟨j, List.mem_of_getElem? qj, join_some c1, hj⟩, c3, c4⟩
  · have back : ∀ n, MutAt (List.replicate nt none ++ freeV σ js) (List.replicate nt .no ++ js.map (frS ρ)) n a → ∃ j, nt ≤ n ∧ js[n - nt]? = some j ∧ MutAt σ ρ j a := fun n mm => by
      rcases mm with ⟨m1, m2⟩ | ⟨c, m1, _⟩
      rotate_left
      · by_cases hlt : n < nt
        · rw [List.getElem?_append_left (by simpa using hlt), List.getElem?_replicate, if_pos hlt] at m1
          cases m1
        · rw [List.getElem?_append_right (by simp; omega), List.length_replicate, List.getElem?_map] at m1
          cases qj : js[n - nt]? with
          | none => rw [qj] at m1; cases m1
          | some j =>
            rw [qj, Option.map_some] at m1
            rcases frS_cases (ρ := ρ) j with z | ⟨dd, z, hj⟩ | ⟨z, hj⟩ <;> rw [z] at m1 <;> cases m1
      by_cases hlt : n < nt
      · rw [List.getElem?_append_left (by simpa using hlt), List.getElem?_replicate, if_pos hlt] at m1
        cases m1
      · rw [List.getElem?_append_right (by simp; omega), List.length_replicate] at m1
        obtain ⟨j, qj, oj⟩ := freeV_get m1
        rw [List.getElem?_append_right (by simp; omega), List.length_replicate, List.getElem?_map, qj] at m2
        refine ⟨j, by omega, qj, .inl ⟨join_some oj.symm, .inl ?_⟩⟩
        rcases frS_cases (ρ := ρ) j with z | ⟨dd, z, hj⟩ | ⟨z, hj⟩
        · rw [Option.map_some, z] at m2; rcases m2 with q | ⟨_, q⟩ <;> cases q
        · rw [Option.map_some, z] at m2; rcases m2 with q | ⟨_, q⟩ <;> cases q
        · exact hj
    obtain ⟨j, l1, qj, mj⟩ := back n m1
    obtain ⟨j', l2, qj', mj'⟩ := back m m2
    have := e.sep j j' a mj mj'
    subst this
    have l3 : n - nt < js.length := by
      by_cases z : n - nt < js.length
      · exact z
      · rw [List.getElem?_eq_none (by omega)] at qj; cases qj
    have := (List.getElem?_inj l3 hnd).mp (qj.trans qj'.symm)
    omega
theorem mixB_at {R : Hp} {W : Addr → Prop} {B : Hp} {a : Addr} {vs : List V} (h : R a = some (.lst vs)) (nw : ¬ W a) : mixB R W B a = some (.lst vs) := by
  unfold mixB; rw [h]; dsimp only; rw [if_neg nw]
theorem mixB_W {R : Hp} {W : Addr → Prop} {B : Hp} {a : Addr} (h : W a) : mixB R W B a = B a := by
  unfold mixB
  split
  · rw [if_pos h]
  · rfl
theorem mixB_no {R : Hp} {W : Addr → Prop} {B : Hp} {a : Addr} (h : ∀ vs, R a ≠ some (.lst vs)) : mixB R W B a = B a := by
  unfold mixB
  split
  · rename_i vs e; exact absurd e (h vs)
  · rfl
/-- what lies there: of what stays, or a list of the entry's -/
theorem mixB_out {R : Hp} {W : Addr → Prop} {B : Hp} {a : Addr} {o : HO} (h : mixB R W B a = some o) : B a = some o ∨ (¬ W a ∧ R a = some o ∧ ∃ vs, o = .lst vs) := by
  unfold mixB at h
  split at h
  · rename_i vs e
    split at h
    · exact .inl h
    · rename_i z; cases h; exact .inr ⟨z, e, vs, rfl⟩
  · exact .inl h
/-- what stays lies there as well -/
theorem mixB_in {R : Hp} {W : Addr → Prop} {B H : Hp} (w : Wd R W B H) : Same B (mixB R W B) := fun a o h => by
  by_cases z : W a
  · rw [mixB_W z]; exact h
  · by_cases q : ∃ vs, R a = some (.lst vs)
    · obtain ⟨vs, q⟩ := q
      have h1 := w.fr a _ q z
      rw [w.bh a o h] at h1
      cases h1
      exact mixB_at q z
    · rw [mixB_no fun vs e => q ⟨vs, e⟩]; exact h
theorem mixB_now {R : Hp} {W : Addr → Prop} {B H : Hp} (w : Wd R W B H) : Same (mixB R W B) H := fun a o h => by
  rcases mixB_out h with h | ⟨h1, h2, _⟩
  · exact w.bh a o h
  · exact w.fr a o h2 h1
/-- with the heap now as the entry -/
theorem mixB_re {R : Hp} {W W' : Addr → Prop} {B B' H : Hp} (w : Wd R W B H) (s : Same B B') (sB : Same B' H) (hw : ∀ a, W' a → R a ≠ none → W a) (hb : ∀ a, W' a → B' a = none) : Same (mixB R W B) (mixB H W' B') := fun a o h => by
  have hH := mixB_now w a o h
  rcases mixB_out h with h | ⟨h1, h2, vs, rfl⟩
  · have h' := s a o h
    by_cases z : W' a
    · rw [hb a z] at h'; cases h'
    · by_cases q : ∃ vs, H a = some (.lst vs)
      · obtain ⟨vs, q⟩ := q
        rw [hH] at q; cases q
        exact mixB_at hH z
      · rw [mixB_no fun vs e => q ⟨vs, e⟩]; exact h'
  · exact mixB_at hH fun z => h1 (hw a z (by rw [h2]; simp))
theorem Ev.rebase {R : Hp} {W : Addr → Prop} {B H : Hp} {σ : St} {ρ : List Sl} (e : Ev K R W B H σ ρ) (hm : ∀ j a, MutAt σ ρ j a → W a) : Ev K H W B H σ ρ := by
  refine ⟨⟨fun _ _ z _ => z, e.bh, e.wb, e.wh, fun a z => by obtain ⟨x', y', q', _⟩ := e.wh a z; rw [q']; simp⟩, e.len, fun j kk hj => ?_, e.sep⟩
  have := e.ok j kk hj
  cases kk with
  | no => trivial
  | new d =>
    obtain ⟨v, h1, h2⟩ := this
    exact ⟨v, h1, h2.mono (mixB_re e.toWd (Same.refl _) e.bh (fun _ z _ => z) e.wb)⟩
  | pin v d => exact ⟨this.1, this.2.mono (mixB_re e.toWd (Same.refl _) e.bh (fun _ z _ => z) e.wb)⟩
  | val d => exact this
  | own ds =>
    obtain ⟨a, q1, q2, _⟩ := this
    exact absurd q2 (e.wr a (hm j a (.inl ⟨join_some q1, .inr ⟨ds, hj⟩⟩)))
  | deep c => exact absurd (this.2.fr _ List.mem_cons_self).1 (e.wr _ (hm j _ (.inr ⟨c, hj, List.mem_cons_self⟩)))
  | bag =>
    obtain ⟨c, c1, c2, c3, c4⟩ := this
    exact ⟨c, c1, .inl (hm j c (.inl ⟨join_some c1, .inl hj⟩)), c3, c4⟩
theorem Ev.unbase {R : Hp} {W : Addr → Prop} {B H B' H' : Hp} {σ : St} {ρ : List Sl} (e : Ev K R W B H σ ρ) (hm : ∀ j a, MutAt σ ρ j a → W a) (e' : Ev K H W B' H' σ ρ) (g : Grow H B B') : Ev K R W B' H' σ ρ ∧ Grow R B B' := by
  refine ⟨⟨⟨fun a o z nw => e'.fr a o (e.fr a o z nw) nw, e'.bh, e'.wb, e'.wh, e.wr⟩, e'.len, fun j kk hj => ?_, e'.sep⟩, ⟨g.s, fun a o z => ?_⟩⟩
  · have := e'.ok j kk hj
    cases kk with
    | no => trivial
    | new d =>
      obtain ⟨v, h1, h2⟩ := e.ok j _ hj
      exact ⟨v, h1, h2.mono (mixB_mono g.s)⟩
    | pin v d =>
      obtain ⟨h1, h2⟩ := e.ok j _ hj
      exact ⟨h1, h2.mono (mixB_mono g.s)⟩
    | val d => exact this
    | own ds =>
      obtain ⟨a, q1, q2, _⟩ := e.ok j _ hj
      exact absurd q2 (e.wr a (hm j a (.inl ⟨join_some q1, .inr ⟨ds, hj⟩⟩)))
    | deep c => exact absurd ((e.deepAt hj).2.fr _ List.mem_cons_self).1 (e.wr _ (hm j _ (.inr ⟨c, hj, List.mem_cons_self⟩)))
    | bag =>
      obtain ⟨c, c1, c2, c3, c4⟩ := this
      exact ⟨c, c1, .inl (hm j c (.inl ⟨join_some c1, .inl hj⟩)), c3, c4⟩
  · rcases g.n a o z with q | q
    · exact .inl q
    · exact .inr (e.toWd.fresh q).1
theorem refCompG {wi : TI} {g : TG} {tt : TT} {te : TE} {ug : UG} {ut : UT} {nt : Nat} {js : List Nat} (h0 : RefI K wi w) (hg : RefG K g ug) (ht : RefT K tt ut) (h1 : RefE K te u) (hnd : js.Nodup) : RefO K (tCompG wi g tt te nt js) (uCompG w ug ut u nt js) := by
  intro ρ k h R W B H σ Q e q
  refine h0 ρ _ h R W B H σ _ e fun ds J B1 H1 z1 e1 g1 it => ?_
  obtain ⟨hl, z1⟩ := z1
  intro D hD
  obtain ⟨f1, f2, f3⟩ := e1.toWd.fresh hD
  have nm1 : ∀ i, ¬ MutAt σ ρ i D := fun i m => e1.notNew hD m rfl
  have ei := e1.within nt hnd
  have hmi : ∀ j a, MutAt (List.replicate nt none ++ freeV σ js) (List.replicate nt .no ++ js.map (frS ρ)) j a → ∃ j, j ∈ js ∧ σ[j]? = some (some (V.ref a)) ∧ ρ[j]? = some Sl.bag := fun j a m => by
    have q2 := (ei.mutOk m).2
    rcases m with ⟨m1, z | ⟨es, z⟩⟩ | ⟨c, z, mc⟩
    · obtain ⟨c, c1, c2, _⟩ := ei.bagAt z
      rw [m1] at c1; cases c1
      rcases c2 with c2 | c2
      · exact c2
      · exact absurd c2 q2
    · obtain ⟨c, c1, c2, _⟩ := ei.ownC z
      rw [m1] at c1; cases c1
      exact absurd c2 q2
    · exact absurd ((ei.deepAt z).2.fr a mc).1 q2
  generalize hWW : (fun a => ∃ j, j ∈ js ∧ σ[j]? = some (some (V.ref a)) ∧ ρ[j]? = some Sl.bag) = WW at ei
  have hmi : ∀ j a, MutAt (List.replicate nt none ++ freeV σ js) (List.replicate nt .no ++ js.map (frS ρ)) j a → WW a := fun j a m => by rw [← hWW]; exact hmi j a m
  have hW : ∀ a, WW a → ∃ i : Nat, σ[i]? = some (some (.ref a)) ∧ ρ[i]? = some .bag := fun a z => by
    rw [← hWW] at z
    obtain ⟨j, _, z⟩ := z
    exact ⟨j, z⟩
  have nWD : ¬ WW D := fun z => by
    obtain ⟨i', y1, y2⟩ := hW D z
    exact nm1 i' (.inl ⟨y1, .inl y2⟩)
  refine ⟨fun i m σi H' => ∃ B' ys es ρi, m = ds.length - i ∧ i ≤ ds.length ∧ Ev K H1 WW B' H' σi ρi ∧ Grow H1 B1 B' ∧ H' D = some (.lst ys) ∧ B' D = none ∧ (∀ j a, MutAt σi ρi j a → WW a) ∧ ys.length ≤ i ∧ Reps K B' ys es ∧ compG ug ut u (ds.drop i) ρi fun r => k (es ++ r),
    ⟨ds.length, B1, [], [], _, by simp, Nat.zero_le _, ei.allocH hD _, Grow.refl _ _, upd_same, f3, hmi, Nat.le_refl _, .nil, by simpa using z1⟩, ?_⟩
  rintro i m σi H2 ⟨B2, ys, es, ρi, rfl, hi, e2, g2, hy, hb, hnm, hyl, ry, z2⟩
  obtain ⟨t1, t2, t3⟩ := it H2 (g2.s.trans e2.bh) i
  by_cases hlt : i < ds.length
  · refine .inr ⟨t1 hlt, fun x H' y => ?_⟩
    obtain ⟨rfl, d, hd, rx⟩ := t3 x H' hlt y
    have ed : ds.drop i = d :: ds.drop (i + 1) := by
      rw [List.drop_eq_getElem_cons hlt]
      rw [List.getElem?_eq_getElem hlt] at hd
      rw [Option.some.inj hd]
    rw [ed] at z2
    refine hg d ρi _ z2 H1 WW B2 H' σi x _ e2 (rx.mono g2.s) fun ρ3 σ3 z3 e3 mm => ?_
    have hnm3 : ∀ j a, MutAt σ3 ρ3 j a → WW a := fun j a m => hnm j a (mm j a m)
    have bD : ∀ {B4 : Hp}, Grow H' B2 B4 → B4 D = none := fun {B4} g4 => by
      cases qd : B4 D with
      | none => rfl
      | some o =>
        rcases g4.n D o qd with z | z
        · rw [hb] at z; cases z
        · rw [hy] at z; cases z
    refine ht ρ3 _ z3 H' WW B2 H' σ3 _ (e3.rebase hnm3) fun b B4 H4 z4 e4 g4 => ?_
    have hD4 : H4 D = some (.lst ys) := e4.fr D _ hy nWD
    cases b with
    | false =>
      rw [if_neg Bool.false_ne_true] at z4 ⊢
      obtain ⟨e5, g5⟩ := e3.unbase hnm3 e4 g4
      exact ⟨ds.length - (i + 1), by omega, B4, ys, es, ρ3, rfl, hlt, e5, g2.trans g5, hD4, bD g4, hnm3, by omega, ry.mono g4.s, z4⟩
    | true =>
      rw [if_pos rfl] at z4 ⊢
      refine h1 ρ3 _ z4 H' WW B4 H4 σ3 _ e4 fun y' v B5 H5 z5 e5 g5 s5 => ?_
      have g45 := g4.trans g5
      have hD5 : H5 D = some (.lst ys) := e5.fr D _ hy nWD
      obtain ⟨e6, g6⟩ := e3.unbase hnm3 e5 g45
      refine ⟨ys, hD5, by omega, ds.length - (i + 1), by omega, B5, ys ++ [v], es ++ [y'], ρ3, rfl, hlt, e6.scribble hD (bD g45) (fun j m => nWD (hnm3 j D m)) _, g2.trans g6, upd_same, bD g45, hnm3, by rw [List.length_append, List.length_singleton]; omega, (ry.mono g45.s).append (.cons s5 .nil), ?_⟩
      simpa [List.append_assoc] using z5
  · have eq : i = ds.length := by omega
    subst eq
    rw [List.drop_length] at z2
    obtain ⟨e4, g4⟩ := e1.after hW e2.toWd g2
    refine .inl ⟨t2 (Nat.le_refl _), q _ D ys B2 H2 (by simpa [compG] using z2) e4 (g1.trans g4) f1 hb hy ry nm1⟩
/-! ### the rules -/
/-- the tests of a clause over trees -/
def PIfs3 (X : Cx) (ifs : List Expr) (ut : UT) : Prop := ∃ t, PIfs X ifs t ∧ RefT X.K t ut
theorem ifs_nil : PIfs3 X [] utTrue := ⟨_, pifs_nil, fun ρ k h R W B H σ Q e q => q true B H h e (Grow.refl _ _)⟩
theorem ifs_one {c : Expr} {ut : UT} (h : PT3 X c ut) : PIfs3 X [c] ut := by
  obtain ⟨_, h1, r1⟩ := h
  exact ⟨_, pifs_one h1, r1⟩
/-- one reading for all contexts -/
theorem joinE {elt : Expr} {α : Type} {Xs : α → Cx} (hK : ∀ a, (Xs a).K = K) (h : ∀ a, PE3 (Xs a) elt u) : ∃ t, (∀ a, PE (Xs a) elt t) ∧ RefE K t u := by
  refine ⟨fun σ H Q => ∀ a, ∃ t, PE (Xs a) elt t ∧ RefE K t u ∧ t σ H Q, fun a pins s σ H Q I q => ?_, fun ρ k q R W B H σ Q e z a => ?_⟩
  · obtain ⟨t, ht, _, hq⟩ := q a
    exact ht pins s σ H Q I hq
  · obtain ⟨t, ht, hr⟩ := h a
    rw [hK a] at hr
    exact ⟨t, ht, hr, hr ρ k q R W B H σ Q e z⟩
theorem joinI {ifs : List Expr} {ut : UT} {α : Type} {Xs : α → Cx} (hK : ∀ a, (Xs a).K = K) (h : ∀ a, PIfs3 (Xs a) ifs ut) : ∃ t, (∀ a, PIfs (Xs a) ifs t) ∧ RefT K t ut := by
  refine ⟨fun σ H Q => ∀ a, ∃ t, PIfs (Xs a) ifs t ∧ RefT K t ut ∧ t σ H Q, fun a pins s σ H Q I q => ?_, fun ρ k q R W B H σ Q e z a => ?_⟩
  · obtain ⟨t, ht, _, hq⟩ := q a
    exact ht pins s σ H Q I hq
  · obtain ⟨t, ht, hr⟩ := h a
    rw [hK a] at hr
    exact ⟨t, ht, hr, hr ρ k q R W B H σ Q e z⟩
theorem joinG {tg : Expr} {ug : UG} {α : Type} {Xs : α → Cx} (hK : ∀ a, (Xs a).K = K) (h : ∀ a, PG3 (Xs a) tg ug) : ∃ t, (∀ a, PG (Xs a) tg t) ∧ RefG K t ug := by
  refine ⟨fun v σ H Q => ∀ a, ∃ t, PG (Xs a) tg t ∧ RefG K t ug ∧ t v σ H Q, fun a pins s σ H v x Q I r q => ?_, fun d ρ k q R W B H σ v Q e r z a => ?_⟩
  · obtain ⟨t, ht, _, hq⟩ := q a
    exact ht pins s σ H v x Q I r hq
  · obtain ⟨t, ht, hr⟩ := h a
    rw [hK a] at hr
    exact ⟨t, ht, hr, hr d ρ k q R W B H σ v Q e r z⟩
variable {elt iter tg : Expr} {ifs : List Expr} {scope : Scope} {cl : List (Str × Addr)} {ts fr : List Str} {js : List Nat} {ug : UG} {ut : UT}
theorem o_compG (hi : PI3 X tg iter w) (hg : ∀ C s H ex, PG3 (compCx X (ts ++ fr) scope cl C s H ex) tg ug) (hts : ∀ C s H ex, PIfs3 (compCx X (ts ++ fr) scope cl C s H ex) ifs ut) (helt : ∀ C s H ex, PE3 (compCx X (ts ++ fr) scope cl C s H ex) elt u)
    (F : FreeOk X scope cl fr js) (hjn : js.Nodup := by decide) (hc : X.calm = true := by rfl) (hs : ∀ v, foldedSetIterable iter X.env v = pure v := by intro _; rfl) : PO3 X (.ListComp elt [⟨tg, iter, ifs, 0⟩] scope pos) (uCompG w ug ut u ts.length js) := by
  obtain ⟨_, h0, r0⟩ := hi
  obtain ⟨tg', hg', rg⟩ := joinG (K := X.K) (Xs := fun a : Addr × Shared × Hp × List Addr => compCx X (ts ++ fr) scope cl a.1 a.2.1 a.2.2.1 a.2.2.2) (fun _ => rfl) fun a => hg a.1 a.2.1 a.2.2.1 a.2.2.2
  obtain ⟨tt, ht', rt⟩ := joinI (K := X.K) (Xs := fun a : Addr × Shared × Hp × List Addr => compCx X (ts ++ fr) scope cl a.1 a.2.1 a.2.2.1 a.2.2.2) (fun _ => rfl) fun a => hts a.1 a.2.1 a.2.2.1 a.2.2.2
  obtain ⟨te, he', re⟩ := joinE (K := X.K) (Xs := fun a : Addr × Shared × Hp × List Addr => compCx X (ts ++ fr) scope cl a.1 a.2.1 a.2.2.1 a.2.2.2) (fun _ => rfl) fun a => helt a.1 a.2.1 a.2.2.1 a.2.2.2
  exact ⟨_, pe_compG h0 (fun C s H ex => hg' (C, s, H, ex)) (fun C s H ex => ht' (C, s, H, ex)) (fun C s H ex => he' (C, s, H, ex)) F hc hs, refCompG r0 rg rt re hjn⟩
/-- name = a comprehension, the name a plain local: as a list of one's own -/
theorem s_compA {i : Nat} {y : Str} {py spos : Pos} (hN : X.N.Nodup) (hiN : X.N[i]? = some y) (hy : X.env.scope.names.lookup y = some .local)
    (hi : PI3 X tg iter w) (hg : ∀ C s H ex, PG3 (compCx X (ts ++ fr) scope cl C s H ex) tg ug) (hts : ∀ C s H ex, PIfs3 (compCx X (ts ++ fr) scope cl C s H ex) ifs ut) (helt : ∀ C s H ex, PE3 (compCx X (ts ++ fr) scope cl C s H ex) elt u)
    (F : FreeOk X scope cl fr js) (hjn : js.Nodup := by decide) (hc : X.calm = true := by rfl) (hs : ∀ v, foldedSetIterable iter X.env v = pure v := by intro _; rfl)
    (hsw : swapsWith (.ListComp elt [⟨tg, iter, ifs, 0⟩] scope pos) (some (.Name y py)) spos.line X.env = pure true := by rfl) :
    PS3 X (.Assign [.Name y py] (.ListComp elt [⟨tg, iter, ifs, 0⟩] scope pos) spos) (uSetO i (uCompG w ug ut u ts.length js)) := by
  obtain ⟨_, h0, r0⟩ := hi
  obtain ⟨tg', hg', rg⟩ := joinG (K := X.K) (Xs := fun a : Addr × Shared × Hp × List Addr => compCx X (ts ++ fr) scope cl a.1 a.2.1 a.2.2.1 a.2.2.2) (fun _ => rfl) fun a => hg a.1 a.2.1 a.2.2.1 a.2.2.2
  obtain ⟨tt, ht', rt⟩ := joinI (K := X.K) (Xs := fun a : Addr × Shared × Hp × List Addr => compCx X (ts ++ fr) scope cl a.1 a.2.1 a.2.2.1 a.2.2.2) (fun _ => rfl) fun a => hts a.1 a.2.1 a.2.2.1 a.2.2.2
  obtain ⟨te, he', re⟩ := joinE (K := X.K) (Xs := fun a : Addr × Shared × Hp × List Addr => compCx X (ts ++ fr) scope cl a.1 a.2.1 a.2.2.1 a.2.2.2) (fun _ => rfl) fun a => helt a.1 a.2.1 a.2.2.1 a.2.2.2
  refine ⟨_, ps_compA hN hiN hy h0 (fun C s H ex => hg' (C, s, H, ex)) (fun C s H ex => ht' (C, s, H, ex)) (fun C s H ex => he' (C, s, H, ex)) F hc hs hsw, fun U ρ h R W B H σ D e s => ?_⟩
  exact refCompG r0 rg rt re hjn ρ _ h R W B H σ _ e fun ds a vs B1 H1 z1 e1 g1 f1 f2 f3 f4 f5 => s.nx _ _ B1 H1 z1 (e1.setO i f1 f2 f3 f4 fun j _ => f5 j) g1
/-- the own list in slot i goes over to what stays, behind a statement -/
theorem s_thenFz {st : Stmt} {s : US} (i : Nat) (h : PS3 X st s) : PS3 X st (fun U ρ => s { U with nx := fun ρ' => ∃ ds : List D, ρ'[i]? = some (.own ds) ∧ U.nx (ρ'.set i (.val (.lst ds))) } ρ) := by
  obtain ⟨_, h1, r1⟩ := h
  refine ⟨_, h1, fun U ρ h R W B H σ D e sm => ?_⟩
  refine r1 _ ρ h R W B H σ D e ⟨fun ρ' σ' B' H' z e' g => ?_, sm.bk, sm.ct, sm.rt⟩
  obtain ⟨ds, ho, z⟩ := z
  obtain ⟨B2, e2, g2⟩ := e'.fz ho
  exact sm.nx _ σ' B2 H' z e2 (g.trans g2)
end
end L3

/-! Comprehensions whose own names are read by a comprehension within them: cells of their own. -/
namespace L2
open PySem PySem.Spec PyProof.Rows
section
variable {X : Cx}
end
end L2
namespace L3
open PySem L2
section
variable {K : PySem.W.Frag} {X : Cx} {e : Expr} {es : List Expr} {u : UE} {w : UL} {pos p : Pos}
variable {elt iter tg : Expr} {ifs : List Expr} {scope : Scope} {ts : List Str} {ug : UG} {ut : UT}
end
end L3

/-! Loops and comprehensions over lists of one kind. -/
namespace L3
open PySem L2
theorem forR_map {α : Type} {f : α → D} {s : US} {U : UEnds} {m : Nat} (I : List α → List Sl → Prop) : ∀ {rs done : List α} {ρ : List Sl}, I done ρ →
    (∀ (pre : List α) (r : α) (rest : List α) ρ, done ++ rs = pre ++ r :: rest → I pre ρ → ∀ N : List Sl → Prop, (∀ r', I (pre ++ [r]) r' → N r') → s { U with nx := N, ct := N, bk := U.nx } (ρ.set m (.val (f r)))) → (∀ ρ, I (done ++ rs) ρ → U.nx ρ) → forR (ugName m) s U (rs.map f) ρ
  | [], done, ρ, h0, _, h2 => h2 ρ (by rw [List.append_nil]; exact h0)
  | r :: rs, done, ρ, h0, h1, h2 => by
    refine h1 done r rs ρ rfl h0 _ fun r' hr => ?_
    have e : done ++ r :: rs = (done ++ [r]) ++ rs := by simp
    rw [e] at h1 h2
    exact forR_map I hr h1 h2
theorem forR_rng0 {s : US} {U : UEnds} {m : Nat} (I : Nat → List Sl → Prop) : ∀ {n i : Nat} {ρ : List Sl}, I i ρ → (∀ (j : Nat) ρ, i ≤ j → j < i + n → I j ρ → ∀ N : List Sl → Prop, (∀ r, I (j + 1) r → N r) → s { U with nx := N, ct := N, bk := U.nx } (ρ.set m (.val (.int j)))) →
    (∀ ρ, I (i + n) ρ → U.nx ρ) → forR (ugName m) s U ((List.range' i n).map fun j : Nat => D.int j) ρ
  | 0, i, ρ, h0, _, h2 => h2 ρ h0
  | n + 1, i, ρ, h0, h1, h2 => by
    show forR (ugName m) s U (D.int i :: (List.range' (i + 1) n).map fun j : Nat => D.int j) ρ
    refine h1 i ρ (Nat.le_refl _) (by omega) h0 _ fun r hr => ?_
    exact forR_rng0 I hr (fun j ρ hj hj2 => h1 j ρ (by omega) (by omega)) fun ρ h => h2 ρ (by rw [show i + (n + 1) = i + 1 + n by omega]; exact h)
theorem forR_rng {s : US} {U : UEnds} {m n : Nat} {ρ : List Sl} (I : Nat → List Sl → Prop) (h0 : I 0 ρ) (h1 : ∀ (j : Nat) ρ, j < n → I j ρ → ∀ N : List Sl → Prop, (∀ r, I (j + 1) r → N r) → s { U with nx := N, ct := N, bk := U.nx } (ρ.set m (.val (.int j))))
    (h2 : ∀ ρ, I n ρ → U.nx ρ) : forR (ugName m) s U ((List.range n).map fun j : Nat => D.int j) ρ := by
  rw [List.range_eq_range']
  exact forR_rng0 I h0 (fun j ρ _ hj => h1 j ρ (by omega)) fun ρ h => h2 ρ (by rw [Nat.zero_add] at h; exact h)
theorem compG_map {α : Type} {f h : α → D} {u : UE} {fs : List Sl} : ∀ {rs : List α} {v0 : Sl} {k : List D → Prop}, (∀ r ∈ rs, ∀ k : D → Prop, k (h r) → u (.val (f r) :: fs) k) → k (rs.map h) → compG (ugName 0) utTrue u (rs.map f) (v0 :: fs) k
  | [], v0, k, _, hk => hk
  | r :: rs, v0, k, hu, hk => by
    show (if true = true then u (.val (f r) :: fs) fun y => compG (ugName 0) utTrue u (rs.map f) (.val (f r) :: fs) fun ys => k (y :: ys) else compG (ugName 0) utTrue u (rs.map f) (.val (f r) :: fs) k)
    rw [if_pos rfl]
    exact hu r List.mem_cons_self _ (compG_map (fun q hq => hu q (List.mem_cons_of_mem _ hq)) hk)
theorem cutL_drop {α : Type} {xs : List α} {i : Int} (h0 : 0 ≤ i) (h1 : i ≤ xs.length) : cutL xs (some i) none = xs.drop i.toNat := by
  unfold cutL
  have e1 : HT.sIx xs.length 0 (some i) = i.toNat := by
    unfold HT.sIx
    first | omega | (simp only []; split <;> omega) | (split <;> omega) | (dsimp only; split <;> (try split) <;> omega)
  have e2 : HT.sIx xs.length xs.length none = xs.length := rfl
  rw [e1, e2]
  exact List.take_of_length_le (by rw [List.length_drop]; omega)
theorem cutL_take {α : Type} {xs : List α} {i : Int} (h0 : 0 ≤ i) (h1 : i ≤ xs.length) : cutL xs none (some i) = xs.take i.toNat := by
  unfold cutL
  have e1 : HT.sIx xs.length xs.length (some i) = i.toNat := by
    unfold HT.sIx
    first | omega | (simp only []; split <;> omega) | (split <;> omega) | (dsimp only; split <;> (try split) <;> omega)
  have e2 : HT.sIx xs.length 0 none = 0 := rfl
  rw [e1, e2]
  rfl
end L3

namespace L3
open PySem L2
section
variable {K : PySem.W.Frag} {R : Hp} {W : Addr → Prop} {B B' H H' : Hp} {σ : St} {ρ : List Sl}
end
section
variable {X : Cx} {F : FS} {pos p : Pos} {a0 : Expr}
end
section
variable {X : Cx} {e : Expr} {u : UE} {pos p : Pos}
end
end L3

namespace L3
open PySem L2
section
variable {X : Cx} {e : Expr} {u : UE} {pos p : Pos}
end
section
variable {K : PySem.W.Frag}
end
end L3

namespace Cut
open PySem L2 L3
open PySem.Builtin.Int (intBits)
def dR (r : Int × Int) : D := .tup [.int r.1, .int r.2]
def dP (p : Int × Int × Int) : D := .tup [.int p.1, .int p.2.1, .int p.2.2]
def gsg (t b : Int) : Int := if b < 0 then -((Int.gcd t b : Nat) : Int) else ((Int.gcd t b : Nat) : Int)
def nrat (t b : Int) : Int × Int := (t.fdiv (gsg t b), b.fdiv (gsg t b))
theorem nrat_spec {t b : Int} (hb : b ≠ 0) : Low (nrat t b).1 (nrat t b).2 ∧ (nrat t b).1 * b = t * (nrat t b).2 ∧ (nrat t b).1.natAbs ≤ t.natAbs ∧ (nrat t b).2.natAbs ≤ b.natAbs := by
  unfold nrat gsg
  split
  · exact low_of hb rfl (.inr ⟨rfl, by assumption⟩)
  · exact low_of hb rfl (.inl ⟨rfl, by omega⟩)
def g3 (a b n : Int) : Int := ((Int.gcd (Int.gcd a n : Nat) b : Nat) : Int)
def gsp (a b n : Int) : Int := if n < 0 then -g3 a b n else g3 a b n
def npt (a b n : Int) : Int × Int × Int := (a.fdiv (gsp a b n), b.fdiv (gsp a b n), n.fdiv (gsp a b n))
theorem npt_spec {a b n : Int} (hn : n ≠ 0) : Pt (npt a b n).1 (npt a b n).2.1 (npt a b n).2.2 ∧ (npt a b n).1 * n = a * (npt a b n).2.2 ∧ (npt a b n).2.1 * n = b * (npt a b n).2.2 ∧ (npt a b n).1.natAbs ≤ a.natAbs ∧ (npt a b n).2.1.natAbs ≤ b.natAbs ∧ (npt a b n).2.2.natAbs ≤ n.natAbs := by
  unfold npt gsp
  split
  · exact pt_of hn rfl (.inr ⟨rfl, by assumption⟩)
  · exact pt_of hn rfl (.inl ⟨rfl, by omega⟩)
theorem g3_xy (a b n : Int) : ((Int.gcd (Int.gcd a b : Nat) n : Nat) : Int) = g3 a b n := by
  unfold g3
  rw [gcd3]
  rfl
theorem g3_pos {a b n : Int} (hn : n ≠ 0) : 0 < g3 a b n := gcd3_pos hn
theorem g3_bits {a b n : Int} {k : Nat} (hn : n ≠ 0) (h : intBits n ≤ k) : intBits (g3 a b n) ≤ k := gcd3_bits hn h
theorem gcd_bits {a b : Int} {k : Nat} (hb : b ≠ 0) (h : intBits b ≤ k) : intBits ((Int.gcd a b : Nat) : Int) ≤ k := by
  refine intBits_le_of_natAbs ?_ h
  exact Nat.le_of_dvd (by omega) (by simpa using Int.natAbs_dvd_natAbs.mpr (Int.gcd_dvd_right a b))
theorem gcd_bits2 {a b : Int} {k : Nat} (hab : a ≠ 0 ∨ b ≠ 0) (h1 : intBits a ≤ k) (h2 : intBits b ≤ k) : intBits ((Int.gcd a b : Nat) : Int) ≤ k := by
  by_cases hb : b = 0
  · subst hb
    rw [Int.gcd_zero_right]
    refine intBits_le_of_natAbs ?_ h1
    omega
  · exact gcd_bits hb h2
/-- the direction's measure of a step, with the sign that makes it go up, or level to the right -/
def wpar (a b : Int) : Int := if b < 0 ∨ (b = 0 ∧ a < 0) then -((Int.gcd a b : Nat) : Int) else ((Int.gcd a b : Nat) : Int)
def wdir (a b : Int) : Int × Int := (a.fdiv (wpar a b), b.fdiv (wpar a b))
theorem wpar_ne {a b : Int} (h : a ≠ 0 ∨ b ≠ 0) : wpar a b ≠ 0 := by
  have : 0 < Int.gcd a b := by
    rcases h with h | h
    · exact Int.gcd_pos_of_ne_zero_left b h
    · exact Int.gcd_pos_of_ne_zero_right a h
  unfold wpar
  split <;> omega
theorem wpar_dvd (a b : Int) : wpar a b ∣ a ∧ wpar a b ∣ b := by
  have h1 := Int.gcd_dvd_left a b
  have h2 := Int.gcd_dvd_right a b
  unfold wpar
  split
  · exact ⟨Int.neg_dvd.mpr h1, Int.neg_dvd.mpr h2⟩
  · exact ⟨h1, h2⟩
theorem fdiv_of {a s x : Int} (h : a = s * x) (s0 : s ≠ 0) : a.fdiv s = x := by rw [h]; exact Int.mul_fdiv_cancel_left x s0
theorem gcd_fac {a b s x y : Int} (h1 : a = s * x) (h2 : b = s * y) : Int.gcd a b = s.natAbs * Int.gcd x y := by rw [h1, h2, Int.gcd_mul_left]
theorem wdir_spec {a b : Int} (h : a ≠ 0 ∨ b ≠ 0) : (wdir a b).1 * wpar a b = a ∧ (wdir a b).2 * wpar a b = b ∧ Int.gcd (wdir a b).1 (wdir a b).2 = 1 ∧ (0 < (wdir a b).2 ∨ (wdir a b).2 = 0 ∧ (wdir a b).1 = 1) := by
  have s0 := wpar_ne h
  obtain ⟨⟨x, hx⟩, ⟨y, hy⟩⟩ := wpar_dvd a b
  have ex : (wdir a b).1 = x := by
    show a.fdiv (wpar a b) = x
    exact fdiv_of hx s0
  have ey : (wdir a b).2 = y := by
    show b.fdiv (wpar a b) = y
    exact fdiv_of hy s0
  rw [ex, ey]
  have sn : (wpar a b).natAbs = Int.gcd a b := by unfold wpar; split <;> omega
  have g1 : Int.gcd x y = 1 := by
    have q : Int.gcd a b = (wpar a b).natAbs * Int.gcd x y := gcd_fac hx hy
    rw [sn] at q
    have pos : 0 < Int.gcd a b := by omega
    have : Int.gcd a b * Int.gcd x y = Int.gcd a b * 1 := by omega
    exact Nat.eq_of_mul_eq_mul_left pos this
  refine ⟨by rw [Int.mul_comm]; exact hx.symm, by rw [Int.mul_comm]; exact hy.symm, g1, ?_⟩
  have pos : 0 < ((Int.gcd a b : Nat) : Int) := by omega
  by_cases hb : b = 0
  · right
    have y0 : y = 0 := by
      rcases Int.mul_eq_zero.mp (hy.symm.trans hb) with z | z
      · exact absurd z s0
      · exact z
    refine ⟨y0, ?_⟩
    rw [y0, Int.gcd_zero_right] at g1
    have ha : a ≠ 0 := by rcases h with h | h; exact h; exact absurd hb h
    -- the sign
    have xp : 0 < x := by
      by_cases an : a < 0
      · have w : wpar a b = -((Int.gcd a b : Nat) : Int) := by unfold wpar; rw [if_pos (.inr ⟨hb, an⟩)]
        rw [w] at hx
        have h3 : 0 < ((Int.gcd a b : Nat) : Int) * x := by rw [Int.neg_mul] at hx; omega
        exact Int.pos_of_mul_pos_right h3 pos
      · have w : wpar a b = ((Int.gcd a b : Nat) : Int) := by unfold wpar; rw [if_neg (by omega)]
        rw [w] at hx
        have h3 : 0 < ((Int.gcd a b : Nat) : Int) * x := by omega
        exact Int.pos_of_mul_pos_right h3 pos
    omega
  · left
    by_cases bn : b < 0
    · have w : wpar a b = -((Int.gcd a b : Nat) : Int) := by unfold wpar; rw [if_pos (.inl bn)]
      rw [w] at hy
      have h3 : 0 < ((Int.gcd a b : Nat) : Int) * y := by rw [Int.neg_mul] at hy; omega
      exact Int.pos_of_mul_pos_right h3 pos
    · have w : wpar a b = ((Int.gcd a b : Nat) : Int) := by unfold wpar; rw [if_neg (by omega)]
      rw [w] at hy
      have h3 : 0 < ((Int.gcd a b : Nat) : Int) * y := by omega
      exact Int.pos_of_mul_pos_right h3 pos
theorem wpar_bits {a b : Int} {k : Nat} (hab : a ≠ 0 ∨ b ≠ 0) (h1 : intBits a ≤ k) (h2 : intBits b ≤ k) : intBits (wpar a b) ≤ k := by
  have gb := gcd_bits2 hab h1 h2
  unfold wpar
  split
  · exact intBits_neg_le gb
  · exact gb
theorem dR_inj {p q : Int × Int} (h : dR p = dR q) : p = q := by
  obtain ⟨a, b⟩ := p
  obtain ⟨d, e⟩ := q
  unfold dR at h
  cases h
  rfl
theorem nrat_cross {a b c d : Int} (hb : b ≠ 0) (hd : d ≠ 0) (h : a * d = c * b) : nrat a b = nrat c d := by
  obtain ⟨l1, e1, _⟩ := nrat_spec (t := a) hb
  obtain ⟨l2, e2, _⟩ := nrat_spec (t := c) hd
  have e : (nrat a b).1 * (nrat c d).2 = (nrat c d).1 * (nrat a b).2 := by
    refine Int.eq_of_mul_eq_mul_right (Int.mul_ne_zero hb hd) ?_
    grind
  obtain ⟨x, y⟩ := low_uniq l1 l2 e
  exact Prod.ext x y
theorem nrat_low {x y : Int} (h : Low x y) : nrat x y = (x, y) := by
  obtain ⟨l, e, _⟩ := nrat_spec (t := x) (Int.ne_of_gt h.1)
  obtain ⟨a, b⟩ := low_uniq l h e
  exact Prod.ext a b
end Cut

namespace Cut
open PySem L2 L3
open PySem.Builtin.Int (intBits)
end Cut
namespace Cut
open PySem L2 L3
open PySem.Builtin.Int (intBits)
end Cut

namespace Cut
open PySem L2 L3
open PySem.Builtin.Int (intBits)
abbrev P3 := Int × Int × Int
def nP (p : P3) : P3 := npt p.1 p.2.1 p.2.2
abbrev PtP (p : P3) : Prop := Pt p.1 p.2.1 p.2.2
/-- sizes -/
structure BP (m : Nat) (p : P3) : Prop where
  a : intBits p.1 ≤ m
  b : intBits p.2.1 ≤ m
  c : intBits p.2.2 ≤ m
end Cut

/-! list(zip(a, b)): zip keeps its tuple no more once one of them is held. -/
namespace PySem
open Sem (wp)
abbrev IsZ (h : Heap) (z TI TO : Addr) (f0 f1 : Value) : Prop :=
  h.get? z = some { cls := .type "zip", dict := none, data := .fields #[f0, f1, .bool false, .ref TI, .ref TO], slots := #[] }
section
variable {prog : Program} {w : World} {A : Around} {E : Value → Shared → Prop} {s : Shared}
theorem wpAny_alive {a : Addr} {Q : Option Obj → Shared → Prop} (h : Q (s.heap.get? a) s) : wpAny (model prog w) A (loadIfAlive a) Q E s := fun _ _ _ => h
theorem zip_notFree {z TI TO T : Addr} {b : Bool} {oT : Obj} {Q : Bool → Shared → Prop} (hz : IsZ s.heap z TI TO (rawInt T) (.bool b)) (hT : s.heap.get? T = some oT)
    (hQ : ∀ h', IsZ h' z TI TO (rawInt T) (.bool true) → Heap.SameBut z s.heap h' → Q false { s with heap := h' }) : wpAny (model prog w) A (Builtin.SmallTypes.ownedTupleIsFree (.ref z)) Q E s := by
  unfold Builtin.SmallTypes.ownedTupleIsFree
  refine wpAny_bind (wpAny_field hz rfl (x := rawInt T) rfl ?_)
  show wpAny _ _ (loadIfAlive ((T : Int).toNat) >>= _) _ _ _
  rw [Int.toNat_natCast]
  refine wpAny_bind (wpAny_alive ?_)
  rw [hT]
  show wpAny _ _ (field (.ref z) 1 >>= _) _ _ _
  refine wpAny_bind (wpAny_field hz rfl (x := .bool b) rfl ?_)
  cases b with
  | true =>
    show wpAny _ _ (pure false) _ _ _
    exact wpAny_pure (hQ s.heap hz ⟨rfl, fun _ _ => rfl⟩)
  | false =>
    show wpAny _ _ (setField (.ref z) 1 (.bool true) >>= fun _ => pure false) _ _ _
    exact wpAny_bind (wpAny_setField_rec hz (by simp) fun h' hz' hs' => wpAny_pure (hQ h' hz' hs'))
theorem zip_next_item2 {z TI TO i1 i2 l1 l2 T : Addr} {f1 : Bool} {oT : Obj} {k1 k2 : Nat} {xs ys : Array Value} {x y : Value} {Q : Value → Shared → Prop} (D : ZipApart z TI TO i1 i2 l1 l2)
    (hz : IsZ s.heap z TI TO (rawInt T) (.bool f1)) (hT : s.heap.get? T = some oT) (hTI : IsPair s.heap TI (.ref i1) (.ref i2))
    (h1 : s.heap.IsListIter i1 l1 k1) (h2 : s.heap.IsListIter i2 l2 k2) (hl1 : s.heap.IsList l1 xs) (hl2 : s.heap.IsList l2 ys) (hx : xs[k1]? = some x) (hy : ys[k2]? = some y)
    (hQ : ∀ h', IsZ h' z TI TO (rawInt T) (.bool true) → h'.IsListIter i1 l1 (k1 + 1) → h'.IsListIter i2 l2 (k2 + 1) → IsPair h' s.heap.objs.size x y → h'.objs.size = s.heap.objs.size + 1 →
      (∀ c o, c ≠ z → c ≠ i1 → c ≠ i2 → s.heap.get? c = some o → h'.get? c = some o) → Q (.ref s.heap.objs.size) { s with heap := h' }) :
    wpAny (model prog w) A (Builtin.«zip.__next__» ⟨[.ref z], []⟩) (fun fin s' => ∃ v, fin = .done (.ret v) ∧ Q v s') E s := by
  show wpAny _ _ (field (.ref z) 2 >>= _) _ _ _
  refine wpAny_bind (wpAny_field hz rfl (x := .bool false) rfl ?_)
  show wpAny _ _ (field (.ref z) 3 >>= _) _ _ _
  refine wpAny_bind (wpAny_field hz rfl (x := .ref TI) rfl ?_)
  refine wpAny_bind (wpAny_seqItems hTI rfl ?_)
  show wpAny _ _ (Builtin.SmallTypes.ownedTupleIsFree (.ref z) >>= _) _ _ _
  refine wpAny_bind (zip_notFree hz hT fun h₁ hz₁ hs₁ => ?_)
  simp only [Bool.false_eq_true, if_false]
  refine wpAny_bind ?_
  simp only [← Array.forIn_toList, List.forIn_cons, List.forIn_nil]
  refine wpAny_bind (wpAny_bind (wpAny_holding ?_))
  show wpAny _ _ (Builtin.SmallTypes.nextOf (.ref i1) >>= _) _ _ _
  refine wpAny_bind (wpAny_nextOf_list_item (h1.extBut hs₁.extBut D.i1z) (hl1.extBut hs₁.extBut D.l1z) hx fun h₂ h1₂ hs₂ => wpAny_pure ?_)
  refine wpAny_pure ?_
  refine wpAny_bind (wpAny_bind (wpAny_holding ?_))
  show wpAny _ _ (Builtin.SmallTypes.nextOf (.ref i2) >>= _) _ _ _
  refine wpAny_bind (wpAny_nextOf_list_item ((h2.extBut hs₁.extBut D.i2z).extBut hs₂.extBut D.i12.symm) ((hl2.extBut hs₁.extBut D.l2z).extBut hs₂.extBut D.l2i1) hy fun h₃ h2₃ hs₃ => wpAny_pure ?_)
  refine wpAny_pure (wpAny_pure ?_)
  refine wpAny_bind (wpAny_newTuple (hsz := by show 2 ≤ sizeLine; decide) ?_)
  have hsz : h₃.objs.size = s.heap.objs.size := by rw [hs₃.1, hs₂.1, hs₁.1]
  have hz₃ : IsZ h₃ z TI TO (rawInt T) (.bool true) := hs₃.extBut _ _ D.i2z.symm (hs₂.extBut _ _ D.i1z.symm hz₁)
  have hk₃ : ∀ c o, c ≠ z → c ≠ i1 → c ≠ i2 → s.heap.get? c = some o → h₃.get? c = some o := fun c o c1 c3 c4 e => hs₃.extBut _ _ c4 (hs₂.extBut _ _ c3 (hs₁.extBut _ _ c1 e))
  have h1₃ : h₃.IsListIter i1 l1 (k1 + 1) := h1₂.extBut hs₃.extBut D.i12
  refine wpAny_pure ⟨_, rfl, ?_⟩
  show Q (.ref h₃.objs.size) _
  rw [hsz]
  refine hQ _ (Heap.get?_push_of_some _ hz₃) (h1₃.at fun o e => Heap.get?_push_of_some _ e) (h2₃.at fun o e => Heap.get?_push_of_some _ e) ?_ (by rw [Heap.size_push, hsz]) fun c o c1 c2 c3 e => Heap.get?_push_of_some _ (hk₃ c o c1 c2 c3 e)
  have := Heap.get?_push_size h₃ (o := { cls := .type "tuple", data := .seq #[x, y] }) rfl
  rw [hsz] at this
  exact this
theorem zip_next_end2 {z TI TO i1 i2 l1 l2 T : Addr} {f1 : Bool} {oT : Obj} {k1 k2 : Nat} {xs ys : Array Value} {Q : Fin → Shared → Prop} (hh : A.handled = none) (D : ZipApart z TI TO i1 i2 l1 l2)
    (hz : IsZ s.heap z TI TO (rawInt T) (.bool f1)) (hT : s.heap.get? T = some oT) (hTI : IsPair s.heap TI (.ref i1) (.ref i2))
    (h1 : s.heap.IsListIter i1 l1 k1) (h2 : s.heap.IsListIter i2 l2 k2) (hl1 : s.heap.IsList l1 xs) (hl2 : s.heap.IsList l2 ys) (hend : xs[k1]? = none ∨ ys[k2]? = none)
    (hE : ∀ h' e, (∀ c o, c ≠ z → c ≠ i1 → c ≠ i2 → s.heap.get? c = some o → h'.get? c = some o) → (∃ o, h'.get? e = some o ∧ o.cls = .type "StopIteration") → E (.ref e) { s with heap := h' }) :
    wpAny (model prog w) A (Builtin.«zip.__next__» ⟨[.ref z], []⟩) Q E s := by
  show wpAny _ _ (field (.ref z) 2 >>= _) _ _ _
  refine wpAny_bind (wpAny_field hz rfl (x := .bool false) rfl ?_)
  show wpAny _ _ (field (.ref z) 3 >>= _) _ _ _
  refine wpAny_bind (wpAny_field hz rfl (x := .ref TI) rfl ?_)
  refine wpAny_bind (wpAny_seqItems hTI rfl ?_)
  show wpAny _ _ (Builtin.SmallTypes.ownedTupleIsFree (.ref z) >>= _) _ _ _
  refine wpAny_bind (zip_notFree hz hT fun h₁ hz₁ hs₁ => ?_)
  simp only [Bool.false_eq_true, if_false]
  refine wpAny_bind ?_
  simp only [← Array.forIn_toList, List.forIn_cons, List.forIn_nil]
  refine wpAny_bind (wpAny_bind (wpAny_holding ?_))
  show wpAny _ _ (Builtin.SmallTypes.nextOf (.ref i1) >>= _) _ _ _
  cases hx : xs[k1]? with
  | none =>
    exact wpAny_bind (wpAny_nextOf_list_end hh (h1.extBut hs₁.extBut D.i1z) (hl1.extBut hs₁.extBut D.l1z) hx fun h₂ e hs₂ he => hE h₂ e (fun c o c1 c3 _ x => hs₂ _ _ c3 (hs₁.extBut _ _ c1 x)) he)
  | some x =>
    have hy : ys[k2]? = none := by rcases hend with h | h; rw [hx] at h; cases h; exact h
    refine wpAny_bind (wpAny_nextOf_list_item (h1.extBut hs₁.extBut D.i1z) (hl1.extBut hs₁.extBut D.l1z) hx fun h₂ h1₂ hs₂ => wpAny_pure ?_)
    refine wpAny_pure ?_
    refine wpAny_bind (wpAny_bind (wpAny_holding ?_))
    show wpAny _ _ (Builtin.SmallTypes.nextOf (.ref i2) >>= _) _ _ _
    exact wpAny_bind (wpAny_nextOf_list_end hh ((h2.extBut hs₁.extBut D.i2z).extBut hs₂.extBut D.i12.symm) ((hl2.extBut hs₁.extBut D.l2z).extBut hs₂.extBut D.l2i1) hy fun h₄ e hs₄ he => hE h₄ e (fun c o c1 c3 c4 x => hs₄ _ _ c4 (hs₂.extBut _ _ c3 (hs₁.extBut _ _ c1 x))) he)
/-- zip amid a walk -/
structure ZSt (S z TI TO i1 i2 l1 l2 : Addr) (xs ys : Array Value) (i : Nat) (h : Heap) : Prop where
  fl : (IsZ h z TI TO .none (.bool false) ∧ ∃ a b, IsPair h TO a b) ∨ ∃ (T : Addr) (b : Bool) (oT : Obj), IsZ h z TI TO (rawInt T) (.bool b) ∧ h.get? T = some oT ∧ T ≠ z ∧ T ≠ i1 ∧ T ≠ i2 ∧ T ≠ S
  tp : IsPair h TI (.ref i1) (.ref i2)
  it1 : h.IsListIter i1 l1 i
  it2 : h.IsListIter i2 l2 i
  ls1 : h.IsList l1 xs
  ls2 : h.IsList l2 ys
theorem ZSt.frame {S z TI TO i1 i2 l1 l2 : Addr} {xs ys : Array Value} {i : Nat} {h h' : Heap} (Z : ZSt S z TI TO i1 i2 l1 l2 xs ys i h) (nS : S ∉ [z, TI, TO, i1, i2, l1, l2]) (k : ∀ c o, c ≠ S → h.get? c = some o → h'.get? c = some o) : ZSt S z TI TO i1 i2 l1 l2 xs ys i h' := by
  have ne : ∀ c, c ∈ [z, TI, TO, i1, i2, l1, l2] → c ≠ S := fun c hc e => nS (e ▸ hc)
  refine ⟨?_, k _ _ (ne _ (by simp)) Z.tp, Z.it1.at fun o e => k _ o (ne _ (by simp)) e, Z.it2.at fun o e => k _ o (ne _ (by simp)) e, Z.ls1.at fun o e => k _ o (ne _ (by simp)) e, Z.ls2.at fun o e => k _ o (ne _ (by simp)) e⟩
  rcases Z.fl with ⟨h1, a, b, h2⟩ | ⟨T, b, oT, h1, h2, h3, h4, h5, h6⟩
  · exact .inl ⟨k _ _ (ne _ (by simp)) h1, a, b, k _ _ (ne _ (by simp)) h2⟩
  · exact .inr ⟨T, b, oT, k _ _ (ne _ (by simp)) h1, k _ _ h6 h2, h3, h4, h5, h6⟩
theorem zip_step {S z TI TO i1 i2 l1 l2 : Addr} {xs ys : Array Value} {i : Nat} {x y : Value} {Q : Option Value → Shared → Prop} (D : ZipApart z TI TO i1 i2 l1 l2) (Z : ZSt S z TI TO i1 i2 l1 l2 xs ys i s.heap) (hS : S < s.heap.objs.size) (hx : xs[i]? = some x) (hy : ys[i]? = some y)
    (hQ : ∀ h', ZSt S z TI TO i1 i2 l1 l2 xs ys (i + 1) h' → IsPair h' s.heap.objs.size x y → h'.objs.size = s.heap.objs.size + 1 → (∀ c o, c ≠ z → c ≠ TO → c ≠ i1 → c ≠ i2 → s.heap.get? c = some o → h'.get? c = some o) → Q (some (.ref s.heap.objs.size)) { s with heap := h' }) :
    wpAny (model prog w) A (pyNext (.ref z)) Q E s := by
  have lt1 : i1 < s.heap.objs.size := by obtain ⟨_, e, _⟩ := Z.it1; exact Heap.lt_size e
  have lt2 : i2 < s.heap.objs.size := by obtain ⟨_, e, _⟩ := Z.it2; exact Heap.lt_size e
  rcases Z.fl with ⟨hz, a, b, hTO⟩ | ⟨T, b, oT, hz, hT, t1, t2, t3, t4⟩
  · have ltz : z < s.heap.objs.size := Heap.lt_size hz
    refine wpAny_pyNext_zip_item D hz Z.tp hTO Z.it1 Z.it2 Z.ls1 Z.ls2 hx hy fun h' a1 a2 a3 a4 a5 a6 hk => ?_
    exact hQ h' ⟨.inr ⟨_, false, _, a1, a5, Nat.ne_of_gt ltz, Nat.ne_of_gt lt1, Nat.ne_of_gt lt2, Nat.ne_of_gt hS⟩, hk _ _ D.TIz D.TITO D.TIi1 D.TIi2 Z.tp, a3, a4, Z.ls1.at fun o e => hk _ o D.l1z D.l1TO D.l1i1 D.l1i2 e, Z.ls2.at fun o e => hk _ o D.l2z D.l2TO D.l2i1 D.l2i2 e⟩ a5 a6 hk
  · have hTy : s.TypeIs (.ref z) "zip" := ⟨_, hz, rfl⟩
    unfold pyNext
    refine wpAny_bind (wpAny_attempt (wpAny_callSpecial?_slot (name := Str.ofString "__next__") hTy F.slot_zip_next
      (wpAny_call_entry F.slot_zip_next hTy F.entry_zip_next
        (zip_next_item2 D hz hT Z.tp Z.it1 Z.it2 Z.ls1 Z.ls2 hx hy fun h' a1 a3 a4 a5 a6 hk => wpAny_pure ?_) (F.args_zip_next_1 _))))
    exact hQ h' ⟨.inr ⟨T, true, oT, a1, hk _ _ t1 t2 t3 hT, t1, t2, t3, t4⟩, hk _ _ D.TIz D.TIi1 D.TIi2 Z.tp, a3, a4, Z.ls1.at fun o e => hk _ o D.l1z D.l1i1 D.l1i2 e, Z.ls2.at fun o e => hk _ o D.l2z D.l2i1 D.l2i2 e⟩ a5 a6 fun c o c1 _ c3 c4 e => hk c o c1 c3 c4 e
theorem zip_stop {S z TI TO i1 i2 l1 l2 : Addr} {xs ys : Array Value} {i : Nat} {Q : Option Value → Shared → Prop} (hh : A.handled = none) (D : ZipApart z TI TO i1 i2 l1 l2) (Z : ZSt S z TI TO i1 i2 l1 l2 xs ys i s.heap) (hend : xs[i]? = none ∨ ys[i]? = none)
    (hQ : ∀ h', (∀ c o, c ≠ z → c ≠ TO → c ≠ i1 → c ≠ i2 → s.heap.get? c = some o → h'.get? c = some o) → Q none { s with heap := h' }) :
    wpAny (model prog w) A (pyNext (.ref z)) Q E s := by
  rcases Z.fl with ⟨hz, a, b, hTO⟩ | ⟨T, b, oT, hz, hT, t1, t2, t3, t4⟩
  · exact wpAny_pyNext_zip_end hh D hz Z.tp hTO Z.it1 Z.it2 Z.ls1 Z.ls2 hend hQ
  · have hTy : s.TypeIs (.ref z) "zip" := ⟨_, hz, rfl⟩
    unfold pyNext
    refine wpAny_bind (wpAny_attempt (wpAny_callSpecial?_slot (name := Str.ofString "__next__") hTy F.slot_zip_next
      (wpAny_call_entry F.slot_zip_next hTy F.entry_zip_next (zip_next_end2 hh D hz hT Z.tp Z.it1 Z.it2 Z.ls1 Z.ls2 hend fun h' e hk he => ?_) (F.args_zip_next_1 _))))
    obtain ⟨o, ho, hc⟩ := he
    refine wpAny_bind (wpAny_isInstance (T := "StopIteration") (b := true) ⟨o, ho, hc⟩ isSubtype_stop ?_)
    exact wpAny_pure (hQ _ fun c o c1 _ c3 c4 e => hk c o c1 c3 c4 e)
end
/-- the tuples told so far -/
structure Got (lo : Nat) (av : List Addr) (xs ys : Array Value) (h : Heap) (ts : List Addr) : Prop where
  nd : ts.Nodup
  new : ∀ t ∈ ts, lo ≤ t ∧ t ∉ av
  pair : ∀ (j : Nat) (t : Addr), ts[j]? = some t → ∃ x y, xs[j]? = some x ∧ ys[j]? = some y ∧ IsPair h t x y
theorem Got.frame {lo : Nat} {av : List Addr} {xs ys : Array Value} {h h' : Heap} {ts : List Addr} (g : Got lo av xs ys h ts) (k : ∀ c o, c ∉ av → h.get? c = some o → h'.get? c = some o) : Got lo av xs ys h' ts :=
  ⟨g.nd, g.new, fun j t e => let ⟨x, y, h1, h2, h3⟩ := g.pair j t e; ⟨x, y, h1, h2, k t _ (g.new t (List.mem_of_getElem? e)).2 h3⟩⟩
section
variable {prog : Program} {w : World} {A : Around} {R : Result → Shared → Prop}
theorem zip_loop {S z TI TO i1 i2 l1 l2 : Addr} {xs ys : Array Value} {lo n : Nat} (hh : A.in1.handled = none) (D : ZipApart z TI TO i1 i2 l1 l2) (nS : S ∉ [z, TI, TO, i1, i2, l1, l2]) (hn : n ≤ sizeLine) (en : n = min xs.size ys.size) (hav : ∀ a ∈ [z, TO, i1, i2, S], a < lo) (res : Value) :
    ∀ (k i : Nat) (s : Shared) (ts : List Addr) (c : Nat), n - i = k → i ≤ n → lo ≤ s.heap.objs.size → ZSt S z TI TO i1 i2 l1 l2 xs ys i s.heap → s.heap.get? S = some { cls := .type "list", dict := none, data := .seq (ts.map Value.ref).toArray c, slots := #[] } → ts.length = i → Got lo [z, TO, i1, i2, S] xs ys s.heap ts →
    (∀ h' ts' c', h'.get? S = some { cls := .type "list", dict := none, data := .seq (ts'.map Value.ref).toArray c', slots := #[] } → ts'.length = n → Got lo [z, TO, i1, i2, S] xs ys h' ts' → (∀ c o, c ∉ [z, TO, i1, i2, S] → s.heap.get? c = some o → h'.get? c = some o) → R (.ok (.ret res)) { s with heap := h' }) →
    codeAny (model prog w) A (.builtin "list.extend.loop" ⟨[.ref S, .ref z, res], []⟩) R s := by
  intro k
  induction k with
  | zero =>
    intro i s ts c hk hi hlo hst hS hl hg hR
    have hin : i = n := by omega
    subst hin
    refine codeAny_builtin F.entry_extend_loop ?_
    rw [Around.under_plainId F.plain_extend_loop _]
    show wpAny _ A.in1 (pyNext (.ref z) >>= _) _ _ s
    refine wpAny_bind (zip_stop hh D hst ?_ fun h' hk' => ?_)
    · rcases Nat.le_total xs.size ys.size with h | h
      · exact .inl (Array.getElem?_eq_none (by omega))
      · exact .inr (Array.getElem?_eq_none (by omega))
    have k2 : ∀ c o, c ∉ [z, TO, i1, i2, S] → s.heap.get? c = some o → h'.get? c = some o := fun c o hc e => hk' c o (fun h => hc (by simp [h])) (fun h => hc (by simp [h])) (fun h => hc (by simp [h])) (fun h => hc (by simp [h])) e
    exact wpAny_pure (hR h' ts c (hk' S _ (fun h => nS (by simp [h])) (fun h => nS (by simp [h])) (fun h => nS (by simp [h])) (fun h => nS (by simp [h])) hS) hl (hg.frame k2) k2)
  | succ k ih =>
    intro i s ts c hk hi hlo hst hS hl hg hR
    have hlt : i < n := by omega
    refine codeAny_builtin F.entry_extend_loop ?_
    rw [Around.under_plainId F.plain_extend_loop _]
    show wpAny _ A.in1 (pyNext (.ref z) >>= _) _ _ s
    have hx : xs[i]? = some xs[i] := Array.getElem?_eq_getElem (by omega)
    have hy : ys[i]? = some ys[i] := Array.getElem?_eq_getElem (by omega)
    refine wpAny_bind (zip_step D hst (Heap.lt_size hS) hx hy fun h' Z' pr sz hk' => ?_)
    have hS' : h'.get? S = _ := hk' S _ (fun h => nS (by simp [h])) (fun h => nS (by simp [h])) (fun h => nS (by simp [h])) (fun h => nS (by simp [h])) hS
    have k2 : ∀ c o, c ∉ [z, TO, i1, i2, S] → s.heap.get? c = some o → h'.get? c = some o := fun c o hc e => hk' c o (fun h => hc (by simp [h])) (fun h => hc (by simp [h])) (fun h => hc (by simp [h])) (fun h => hc (by simp [h])) e
    have ltS : S < s.heap.objs.size := Heap.lt_size hS
    have nav : s.heap.objs.size ∉ [z, TO, i1, i2, S] := fun hm => by
      exact absurd (hav _ hm) (Nat.not_lt.mpr hlo)
    show wpAny _ A.in1 (updateSeq S (·.push (.ref s.heap.objs.size)) >>= _) _ _ _
    refine wpAny_bind ?_
    have sz1 : (ts.map Value.ref).toArray.size = i := by simp [hl]
    have sb : Heap.SameBut S h' (h'.update S (Obj.mapSeq (·.push (Value.ref s.heap.objs.size)))) := Heap.SameBut.update ..
    have e1 : (ts.map Value.ref).toArray.push (.ref s.heap.objs.size) = ((ts ++ [s.heap.objs.size]).map Value.ref).toArray := by simp
    have hS₂ := Heap.get?_update_self (Obj.mapSeq (·.push (Value.ref s.heap.objs.size))) hS' rfl
    replace hS₂ : (h'.update S (Obj.mapSeq (·.push (Value.ref s.heap.objs.size)))).get? S = some { cls := .type "list", dict := none, data := .seq ((ts.map Value.ref).toArray.push (.ref s.heap.objs.size)) _, slots := #[] } := hS₂
    rw [e1] at hS₂
    refine wpAny_updateSeq hS' rfl (wpAny_pure ⟨plainId_quiet F.plain_extend_loop _, ih (i + 1) _ (ts ++ [s.heap.objs.size]) _ (by omega) hlt ?_ (Z'.frame nS fun c o hc e => ?_) hS₂ (by simp [hl]) ?_ fun h'' ts' c' q1 q2 q3 q4 => ?_⟩)
      (by rw [sz1]; omega) (by show (Array.push _ _).size ≤ sizeLine + 1; rw [Array.size_push, sz1]; omega)
    · show lo ≤ (h'.update S (Obj.mapSeq (·.push (Value.ref s.heap.objs.size)))).objs.size
      rw [sb.1, sz]
      omega
    · exact sb.extBut _ _ hc e
    · refine Got.frame (h := h') ⟨?_, fun t ht => ?_, fun j t hj => ?_⟩ fun c o hc e => sb.extBut _ _ (fun h => hc (by simp [h])) e
      · refine List.nodup_append.mpr ⟨hg.nd, by simp, fun a ha b hb e => ?_⟩
        have hb : b = s.heap.objs.size := by simpa using hb
        subst hb e
        obtain ⟨j, hj⟩ := List.getElem?_of_mem ha
        obtain ⟨_, _, _, _, q⟩ := hg.pair j _ hj
        exact Nat.lt_irrefl _ (Heap.lt_size q)
      · rcases List.mem_append.mp ht with ht | ht
        · exact hg.new t ht
        · have : t = s.heap.objs.size := by simpa using ht
          subst this
          exact ⟨hlo, nav⟩
      · rcases Nat.lt_or_ge j ts.length with hjl | hjl
        · rw [List.getElem?_append_left hjl] at hj
          obtain ⟨x, y, q1, q2, q3⟩ := hg.pair j t hj
          exact ⟨x, y, q1, q2, k2 _ _ (hg.new t (List.mem_of_getElem? hj)).2 q3⟩
        · rw [List.getElem?_append_right hjl] at hj
          have jl : j - ts.length = 0 := by
            rcases Nat.eq_zero_or_pos (j - ts.length) with z | z
            · exact z
            · rw [List.getElem?_eq_none (by show 1 ≤ _; omega)] at hj; cases hj
          rw [jl] at hj
          have ej : j = i := by omega
          subst ej
          cases hj
          exact ⟨_, _, hx, hy, pr⟩
    · exact hR h'' ts' c' q1 q2 q3 fun c o hc e => q4 c o hc (sb.extBut _ _ (fun h => hc (by simp [h])) (k2 c o hc e))
theorem zip_no_len : typeLookup (.type "zip") "__len__" = pure none := by rw [typeLookup_type, builtinLookup_eq_fast]; kernel_rfl
theorem zip_no_hint : typeLookup (.type "zip") "__length_hint__" = pure none := by rw [typeLookup_type, builtinLookup_eq_fast]; kernel_rfl
theorem list_init_zip {s : Shared} {S z TI TO i1 i2 l1 l2 : Addr} {xs ys : Array Value} {lo n : Nat} (hh : A.in1.handled = none) (D : ZipApart z TI TO i1 i2 l1 l2) (nS : S ∉ [z, TI, TO, i1, i2, l1, l2]) (hn : n ≤ sizeLine) (en : n = min xs.size ys.size) (hav : ∀ a ∈ [z, TO, i1, i2, S], a < lo)
    (hlo : lo ≤ s.heap.objs.size) (Z : ZSt S z TI TO i1 i2 l1 l2 xs ys 0 s.heap) (hz0 : IsZ s.heap z TI TO .none (.bool false)) (hS : s.heap.get? S = some { cls := .type "list", data := .seq #[] })
    (hR : ∀ h' ts c', h'.get? S = some { cls := .type "list", dict := none, data := .seq (ts.map Value.ref).toArray c', slots := #[] } → ts.length = n → Got lo [z, TO, i1, i2, S] xs ys h' ts → (∀ c o, c ∉ [z, TO, i1, i2, S] → s.heap.get? c = some o → h'.get? c = some o) → R (.ok (.ret .none)) { s with heap := h' }) :
    wpAny (model prog w) A.in1 (Builtin.«list.__init__» ⟨[.ref S, .ref z], []⟩)
      (fun fin s' => match fin with | .done f => R (.ok f) s' | .again c' => c'.quiet = true ∧ codeAny (model prog w) A c' R s') (fun e s' => R (.error e) s') s := by
  have zS : z ≠ S := fun h => nS (by simp [h])
  show wpAny _ A.in1 (do let old ← Builtin.List.listItems (.ref S); Builtin.List.listUpdate (.ref S) (fun _ => #[]); letGo old.toList.reverse; Builtin.List.listExtendWith (.ref S) (.ref z) .none) _ _ s
  refine wpAny_bind ?_
  unfold Builtin.List.listItems
  refine wpAny_bind (wpAny_seqItems hS rfl (wpAny_pure ?_))
  show wpAny _ A.in1 (updateSeq S (fun _ => #[]) >>= fun _ => letGo (#[] : Array Value).toList.reverse >>= fun _ => Builtin.List.listExtendWith (.ref S) (.ref z) .none) _ _ s
  refine wpAny_bind (wpAny_updateSeq hS rfl ?_)
  have sb1 : Heap.SameBut S s.heap (s.heap.update S (Obj.mapSeq (fun _ => (#[] : Array Value)))) := Heap.SameBut.update ..
  have hS₂ := Heap.get?_update_self (Obj.mapSeq (fun _ => (#[] : Array Value))) hS rfl
  refine wpAny_bind (wpAny_letGo ?_)
  have hz1 : IsZ (s.heap.update S (Obj.mapSeq (fun _ => (#[] : Array Value)))) z TI TO .none (.bool false) := sb1.extBut _ _ zS hz0
  have hT : Shared.TypeIs { s with heap := s.heap.update S (Obj.mapSeq (fun _ => (#[] : Array Value))) } (.ref z) "zip" := ⟨_, hz1, rfl⟩
  unfold Builtin.List.listExtendWith
  refine wpAny_bind (wpAny_typeOf hT ?_)
  have h1 : Builtin.List.listSameRef (.ref S) (.ref z) = false := by simp [Builtin.List.listSameRef, zS.symm]
  have h2 : (Value.type "zip" == Value.type "list") = false := by decide
  have h3 : (Value.type "zip" == Value.type "tuple") = false := by decide
  simp only [h1, h2, h3, Bool.or_false, Bool.false_eq_true, if_false]
  refine wpAny_bind (wpAny_pyIter_zip hz1 ?_)
  refine wpAny_bind (wpAny_holding ?_)
  unfold Builtin.List.listLengthHint
  refine wpAny_bind (wpAny_specialOf hT zip_no_len ?_)
  show wpAny _ A.in1 (specialOf (Value.ref z) (Str.ofString "__length_hint__") >>= _) _ _ _
  refine wpAny_bind (wpAny_specialOf hT zip_no_hint ?_)
  refine wpAny_pure ?_
  show wpAny _ A.in1 (rule "list.extend.makes-room" >>= fun _ => Builtin.List.listTouch (.ref S) >>= fun _ =>
    again (.builtin "list.extend.loop" ⟨[.ref S, .ref z, .none], []⟩)) _ _ _
  refine wpAny_bind (wpAny_rule ?_)
  refine wpAny_bind ?_
  show wpAny _ A.in1 (updateSeq S (·.push .none) >>= fun _ => updateSeq S (·.pop)) _ _ _
  refine wpAny_bind (wpAny_updateSeq hS₂ rfl ?_)
  have hS₃ := Heap.get?_update_self (Obj.mapSeq (·.push Value.none)) hS₂ rfl
  refine wpAny_updateSeq (hz := by seq_fits) hS₃ rfl ?_
  have hS₄ := Heap.get?_update_self (Obj.mapSeq (·.pop)) hS₃ rfl
  have sb2 : Heap.SameBut S (s.heap.update S (Obj.mapSeq (fun _ => (#[] : Array Value)))) ((s.heap.update S (Obj.mapSeq (fun _ => (#[] : Array Value)))).update S (Obj.mapSeq (·.push Value.none))) := Heap.SameBut.update ..
  have sb3 : Heap.SameBut S ((s.heap.update S (Obj.mapSeq (fun _ => (#[] : Array Value)))).update S (Obj.mapSeq (·.push Value.none))) (((s.heap.update S (Obj.mapSeq (fun _ => (#[] : Array Value)))).update S (Obj.mapSeq (·.push Value.none))).update S (Obj.mapSeq (·.pop))) := Heap.SameBut.update ..
  have oth : ∀ b o, b ≠ S → s.heap.get? b = some o → (((s.heap.update S (Obj.mapSeq (fun _ => (#[] : Array Value)))).update S (Obj.mapSeq (·.push Value.none))).update S (Obj.mapSeq (·.pop))).get? b = some o :=
    fun b o hb e => sb3.extBut _ _ hb (sb2.extBut _ _ hb (sb1.extBut _ _ hb e))
  refine wpAny_pure ⟨plainId_quiet F.plain_extend_loop _, zip_loop (lo := lo) (n := n) hh D nS hn en hav .none n 0 _ [] _ rfl (Nat.zero_le _) ?_ (Z.frame nS fun c o hc e => oth c o hc e) hS₄ rfl ⟨by simp, by simp, by simp⟩ fun h' ts c' q1 q2 q3 q4 => ?_⟩
  · show lo ≤ (((s.heap.update S (Obj.mapSeq (fun _ => (#[] : Array Value)))).update S (Obj.mapSeq (·.push Value.none))).update S (Obj.mapSeq (·.pop))).objs.size
    rw [sb3.1, sb2.1, sb1.1]
    exact hlo
  · exact hR h' ts c' q1 q2 q3 fun c o hc e => q4 c o hc (oth c o (fun h => hc (by simp [h])) e)
end
section
variable {prog : Program} {w : World} {A : Around} {E : Value → Shared → Prop} {s : Shared}
/-- list(z), z a zip that is at its beginning -/
theorem call_list_zip {Q : Value → Shared → Prop} {z TI TO i1 i2 l1 l2 : Addr} {xs ys : Array Value} {n : Nat} (hh : A.handled = none) (D : ZipApart z TI TO i1 i2 l1 l2) (hn : n ≤ sizeLine) (en : n = min xs.size ys.size)
    (hz : IsZ s.heap z TI TO .none (.bool false)) (hTO : ∃ a b, IsPair s.heap TO a b) (hTI : IsPair s.heap TI (.ref i1) (.ref i2)) (h1 : s.heap.IsListIter i1 l1 0) (h2 : s.heap.IsListIter i2 l2 0) (hl1 : s.heap.IsList l1 xs) (hl2 : s.heap.IsList l2 ys)
    (hQ : ∀ h' ts c', h'.get? s.heap.objs.size = some { cls := .type "list", dict := none, data := .seq (ts.map Value.ref).toArray c', slots := #[] } → ts.length = n → Got (s.heap.objs.size + 1) [] xs ys h' ts → (∀ c o, c ∉ [z, TO, i1, i2] → s.heap.get? c = some o → h'.get? c = some o) → Q (.ref s.heap.objs.size) { s with heap := h' }) :
    wpAny (model prog w) A (call (.type "list") [.ref z]) Q E s := by
  refine callType_codes (Q₁ := fun obj s₁ => obj = .ref s.heap.objs.size ∧ s₁ = { s with heap := s.heap.push { cls := .type "list", data := .seq #[] } }) F.called_list (F.typeCall_list_1 _) F.entry_list_init
    (code_list_new _ ⟨rfl, rfl⟩) fun obj s₁ h₁ => ?_
  obtain ⟨rfl, rfl⟩ := h₁
  have hS : (s.heap.push { cls := .type "list", data := .seq #[] }).get? s.heap.objs.size = some { cls := .type "list", data := .seq #[] } := Heap.get?_push_size _ rfl
  have up : ∀ {b o}, s.heap.get? b = some o → (s.heap.push { cls := .type "list", data := .seq #[] }).get? b = some o := fun e => Heap.get?_push_of_some _ e
  obtain ⟨a, b, hTO⟩ := hTO
  have lz : z < s.heap.objs.size := Heap.lt_size hz
  have lTI : TI < s.heap.objs.size := Heap.lt_size hTI
  have lTO : TO < s.heap.objs.size := Heap.lt_size hTO
  have li1 : i1 < s.heap.objs.size := by obtain ⟨_, e, _⟩ := h1; exact Heap.lt_size e
  have li2 : i2 < s.heap.objs.size := by obtain ⟨_, e, _⟩ := h2; exact Heap.lt_size e
  have ll1 : l1 < s.heap.objs.size := by obtain ⟨_, e, _⟩ := hl1; exact Heap.lt_size e
  have ll2 : l2 < s.heap.objs.size := by obtain ⟨_, e, _⟩ := hl2; exact Heap.lt_size e
  have nS : s.heap.objs.size ∉ [z, TI, TO, i1, i2, l1, l2] := fun hm => by
    simp only [List.mem_cons, List.not_mem_nil, or_false] at hm
    have ne : ∀ {b : Addr}, b < s.heap.objs.size → s.heap.objs.size ≠ b := fun l e => Nat.lt_irrefl _ (Nat.lt_of_lt_of_eq l e)
    rcases hm with h | h | h | h | h | h | h <;> first | exact ne lz h | exact ne lTI h | exact ne lTO h | exact ne li1 h | exact ne li2 h | exact ne ll1 h | exact ne ll2 h
  refine ⟨⟨_, hS, rfl⟩, F.args_list_init_2 _ _, list_init_zip (lo := s.heap.objs.size + 1) (n := n) hh D nS hn en ?_ (by rw [Heap.size_push]; exact Nat.le_refl _) ⟨.inl ⟨up hz, a, b, up hTO⟩, up hTI, h1.at fun o e => up e, h2.at fun o e => up e, hl1.at fun o e => up e, hl2.at fun o e => up e⟩ (up hz) hS fun h' ts c' q1 q2 q3 q4 => ⟨rfl, ?_⟩⟩
  · intro a ha
    simp only [List.mem_cons, List.not_mem_nil, or_false] at ha
    rcases ha with rfl | rfl | rfl | rfl | rfl
    · exact Nat.lt_succ_of_lt lz
    · exact Nat.lt_succ_of_lt lTO
    · exact Nat.lt_succ_of_lt li1
    · exact Nat.lt_succ_of_lt li2
    · exact Nat.lt_succ_self _
  · refine hQ h' ts c' q1 q2 ⟨q3.nd, fun t ht => ⟨(q3.new t ht).1, by simp⟩, q3.pair⟩ fun c o hc e => q4 c o ?_ (up e)
    have := Heap.lt_size e
    intro hm
    simp only [List.mem_cons, List.not_mem_nil, or_false] at hm hc
    rcases hm with h | h | h | h | h
    · exact hc (.inl h)
    · exact hc (.inr (.inl h))
    · exact hc (.inr (.inr (.inl h)))
    · exact hc (.inr (.inr (.inr h)))
    · exact Nat.lt_irrefl _ (Nat.lt_of_lt_of_eq this h.symm)
end
end PySem
namespace L2
open PySem PySem.Spec PyProof.Rows PySem.W
/-- tuples of two laid at new places -/
def lays (H : Hp) : List Addr → List (V × V) → Hp
  | t :: ts, p :: ps => lays (upd H t (.tup [p.1, p.2])) ts ps
  | _, _ => H
theorem lays_old : ∀ {ts : List Addr} {ps : List (V × V)} {H : Hp} {b : Addr}, b ∉ ts → lays H ts ps b = H b
  | [], _, _, _, _ => rfl
  | _ :: _, [], _, _, _ => rfl
  | t :: ts, p :: ps, H, b, h => by
    show lays (upd H t _) ts ps b = H b
    rw [lays_old (fun z => h (List.mem_cons_of_mem _ z)), upd_ne (fun z : b = t => h (by rw [z]; exact List.mem_cons_self))]
theorem lays_cases : ∀ {ts : List Addr} {ps : List (V × V)} {H : Hp} {b : Addr} {o : HO}, lays H ts ps b = some o → (∃ (j : Nat) (p : V × V), ts[j]? = some b ∧ ps[j]? = some p ∧ o = .tup [p.1, p.2]) ∨ H b = some o
  | [], _, _, _, _, h => .inr h
  | _ :: _, [], _, _, _, h => .inr h
  | t :: ts, p :: ps, H, b, o, h => by
    rcases lays_cases (ts := ts) (ps := ps) h with ⟨j, q, h1, h2, h3⟩ | h
    · exact .inl ⟨j + 1, q, by simpa using h1, by simpa using h2, h3⟩
    · by_cases hb : b = t
      · subst hb
        rw [upd_same] at h
        cases h
        exact .inl ⟨0, p, rfl, rfl, rfl⟩
      · rw [upd_ne hb] at h
        exact .inr h
theorem vals_refs2 : ∀ (ts : List Addr), Vals (ts.map V.ref) (ts.map Value.ref)
  | [] => .nil
  | t :: ts => .cons rfl (vals_refs2 ts)
theorem neN {x y : Nat} (h : x < y ∨ y < x) : x ≠ y := by omega
theorem zipApart_at {n a b : Nat} (ha : a < n) (hb : b < n) : ZipApart (n + 4) (n + 2) (n + 3) n (n + 1) a b :=
  ⟨neN (by omega), neN (by omega), neN (by omega), neN (by omega), neN (by omega), neN (by omega), neN (by omega), neN (by omega), neN (by omega), neN (by omega), neN (by omega), neN (by omega), neN (by omega), neN (by omega), neN (by omega), neN (by omega), neN (by omega), neN (by omega)⟩
theorem outN {n c : Nat} (h : c < n) (hm : c ∈ [n + 4, n + 3, n, n + 1]) : False := by
  simp only [List.mem_cons, List.not_mem_nil, or_false] at hm
  omega
section
variable {X : Cx}
/-- list(zip(a, b)) of two lists -/
def tLZ (t : TA) : TE := fun σ H Q => t σ H fun vs H1 => ∃ a b xs ys, vs = [.ref a, .ref b] ∧ H1 a = some (.lst xs) ∧ H1 b = some (.lst ys) ∧
  ∀ (ts : List Addr) (S : Addr), ts.length = (xs.zip ys).length → ts.Nodup → S ∉ ts → (∀ t ∈ ts, H1 t = none) → H1 S = none → Q (.ref S) (upd (lays H1 ts (xs.zip ys)) S (.lst (ts.map V.ref)))
theorem pe_listzip {e1 e2 : Expr} {t : TA} {p1 p2 pos1 pos2 : Pos} (ha : PA X [e1, e2] t) (hc : X.calm = true) (hgl : Gl X "list") (hml : X.mg "list" = none) (hgz : Gl X "zip") (hmz : X.mg "zip" = none)
    (he1 : starEach [.Call (.Name "zip" p2) [e1, e2] [] pos2] X.env = (false, eval (.Call (.Name "zip" p2) [e1, e2] [] pos2) X.env) :: starEach [] X.env := by rfl)
    (he2 : starEach [e1, e2] X.env = (false, eval e1 X.env) :: starEach [e2] X.env := by rfl) (hpl : (backTo pos2 (starEach [e2] X.env)).any (·.1) = false := by rfl) :
    PE X (.Call (.Name "list" p1) [.Call (.Name "zip" p2) [e1, e2] [] pos2] [] pos1) (tLZ t) := by
  intro pins s σ H Q I h
  refine wpAny_Call_Name_kw (ld_blt (u := .type "list") I hgl hml (by decide +kernel) ?_)
  refine PyProof.Rows.callWith_type1 ?_ he1 rfl
  rw [he1]
  refine Calls.spliced_cons ?_
  refine wpAny_Call_Name_kw (ld_blt (u := .type "zip") I hgz hmz (by decide +kernel) ?_)
  refine PyProof.Rows.callWith_type1 (thn (ha pos2 pins s σ H _ I h) fun us s1 ⟨vs, H1, I1, r1, q1⟩ => ?_) he2 hpl
  obtain ⟨a, b, xs, ys, rfl, hA, hB, q⟩ := q1
  obtain ⟨u, v, rfl, ru, rv⟩ := vals2 r1
  cases ru; cases rv
  obtain ⟨z1, its1, n1, v1, len1, o1⟩ := I1.lstM hA
  obtain ⟨z2, its2, n2, v2, len2, o2⟩ := I1.lstM hB
  have L1 : s1.heap.IsList a its1.toArray := ⟨_, o1, rfl, n1, rfl⟩
  have L2 : s1.heap.IsList b its2.toArray := ⟨_, o2, rfl, n2, rfl⟩
  have la : a < s1.heap.objs.size := Heap.lt_size o1
  have lb : b < s1.heap.objs.size := Heap.lt_size o2
  refine call_zip_2 L1 L2 fun h1 a1 a2 a3 a4 a5 a6 k1 => ?_
  refine Calls.spliced_nil ?_
  have D : ZipApart (s1.heap.objs.size + 4) (s1.heap.objs.size + 2) (s1.heap.objs.size + 3) s1.heap.objs.size (s1.heap.objs.size + 1) a b := zipApart_at la lb
  refine call_list_zip (n := min its1.length its2.length) (I1.ok.hd hc) D (by omega) (by simp) a1 ⟨_, _, a3⟩ a2 a4 a5 (L1.at fun o e => k1 _ _ e) (L2.at fun o e => k1 _ _ e) fun h2 ts c' g1 g2 g3 g4 => ?_
  have keep : ∀ c o, s1.heap.get? c = some o → h2.get? c = some o := fun c o e => g4 c o (fun hm => outN (Heap.lt_size e) hm) (k1 c o e)
  have S5 : h1.objs.size = s1.heap.objs.size + 5 := a6
  have big : ∀ t ∈ ts, s1.heap.objs.size ≤ t ∧ t ≠ h1.objs.size := fun t ht =>
    have q : h1.objs.size + 1 ≤ t := (g3.new t ht).1
    ⟨Nat.le_trans (by rw [S5]; exact Nat.le_add_right _ 6) q, fun z => Nat.lt_irrefl _ (Nat.lt_of_lt_of_eq q z)⟩
  have nS : h1.objs.size ∉ ts := fun hm => (big _ hm).2 rfl
  have fr : ∀ {t : Addr}, s1.heap.objs.size ≤ t → H1 t = none := fun h => I1.hok.fresh h
  have leS : s1.heap.objs.size ≤ h1.objs.size := by rw [S5]; exact Nat.le_add_right _ 5
  have frS : H1 h1.objs.size = none := fr leS
  have tl : ts.length = (xs.zip ys).length := by rw [List.length_zip, g2]; omega
  have old : ∀ {b : Addr} {o : HO}, H1 b = some o → upd (lays H1 ts (xs.zip ys)) h1.objs.size (.lst (ts.map V.ref)) b = some o := fun {b o} e => by
    have hb : b < s1.heap.objs.size := I1.hok.lt e
    rw [upd_ne (Nat.ne_of_lt (Nat.lt_of_lt_of_le hb leS)), lays_old (fun hm => Nat.lt_irrefl _ (Nat.lt_of_lt_of_le hb (big b hm).1))]
    exact e
  have newN : ∀ {b : Addr} {o : Obj}, s1.heap.get? b = some o → H1 b = none → upd (lays H1 ts (xs.zip ys)) h1.objs.size (.lst (ts.map V.ref)) b = none := fun {b o} e n => by
    have hb := Heap.lt_size e
    rw [upd_ne (Nat.ne_of_lt (Nat.lt_of_lt_of_le hb leS)), lays_old (fun hm => Nat.lt_irrefl _ (Nat.lt_of_lt_of_le hb (big b hm).1))]
    exact n
  refine ⟨.ref h1.objs.size, upd (lays H1 ts (xs.zip ys)) h1.objs.size (.lst (ts.map V.ref)), I1.un (t' := s1.toks) ⟨fun b o e _ _ _ => keep b o e, fun b o e _ _ _ => ⟨o.slots, keep b o e⟩, fun b o e n _ => newN e n, fun b o e _ => ⟨o, keep b o e⟩, fun b xs e => old e, fun b o u e => old e, fun b ps e => ⟨#[], by rw [old e]; simp⟩⟩ ?_, rfl, q ts _ tl g3.nd nS (fun t ht => fr (big t ht).1) frS⟩
  intro b o e
  by_cases hb : b = h1.objs.size
  · subst hb
    rw [upd_same] at e
    cases e
    exact ⟨by rw [List.length_map, g2]; omega, _, c', vals_refs2 ts, g1⟩
  · rw [upd_ne hb] at e
    rcases lays_cases e with ⟨j, p, e1, e2, rfl⟩ | e
    · obtain ⟨x, y, q1, q2, q3⟩ := g3.pair j b e1
      rw [List.getElem?_zip_eq_some] at e2
      obtain ⟨w1, w2⟩ := e2
      obtain ⟨u1, m1, m2⟩ := v1.get w1
      obtain ⟨u2, m3, m4⟩ := v2.get w2
      rw [List.getElem?_toArray] at q1 q2
      rw [m1] at q1; rw [m3] at q2
      cases q1; cases q2
      exact ⟨by show 2 ≤ sizeLine; decide, [_, _], .cons m2 (.cons m4 .nil), ⟨_, q3, rfl, _, rfl⟩⟩
    · exact (I1.hok b o e).stay (fun c u _ g => keep c u g) (fun c g => old g) fun c xs g => old g
end
end L2

namespace L3
open PySem L2
section
variable {K : PySem.W.Frag} {R : Hp} {W : Addr → Prop} {σ : St} {ρ : List Sl}
/-- new tuples of two -/
theorem Ev.lays : ∀ {ts : List Addr} {vs ws : List V} {ds es : List D} {B H : Hp}, Ev K R W B H σ ρ → Reps K B vs ds → Reps K B ws es → ts.length = (vs.zip ws).length → ts.Nodup → (∀ t ∈ ts, H t = none) →
    Ev K R W (L2.lays B ts (vs.zip ws)) (L2.lays H ts (vs.zip ws)) σ ρ ∧ Grow R B (L2.lays B ts (vs.zip ws)) ∧ Reps K (L2.lays B ts (vs.zip ws)) (ts.map V.ref) ((ds.zip es).map fun p => D.tup [p.1, p.2])
  | [], vs, ws, ds, es, B, H, e, r1, r2, hl, _, _ => by
    have q : (ds.zip es).length = 0 := by
      rw [List.length_zip, ← r1.length, ← r2.length, ← List.length_zip]
      exact hl.symm
    rw [List.length_eq_zero_iff.mp q]
    exact ⟨e, Grow.refl _ _, .nil⟩
  | t :: ts, vs, ws, ds, es, B, H, e, r1, r2, hl, nd, fr => by
    cases r1 with
    | nil => simp at hl
    | cons a1 r1 =>
      cases r2 with
      | nil => simp at hl
      | cons a2 r2 =>
        rename_i v d vs ds w d2 ws es
        have ht := fr t List.mem_cons_self
        have g := e.grow ht (.tup [v, w])
        have nd' := List.nodup_cons.mp nd
        obtain ⟨h1, h2, h3⟩ := Ev.lays (ts := ts) (e.alloc ht (.tup [v, w])) (r1.mono g.s) (r2.mono g.s) (by simpa using hl) nd'.2 (fun x hx => by
          rw [upd_ne (fun z : x = t => nd'.1 (by rw [← z]; exact hx))]
          exact fr x (List.mem_cons_of_mem _ hx))
        refine ⟨h1, g.trans h2, .cons (.tup (vs := [v, w]) (h2.s _ _ upd_same) (.cons ((a1.mono g.s).mono h2.s) (.cons ((a2.mono g.s).mono h2.s) .nil))) h3⟩
end
section
variable {X : Cx} {e1 e2 : Expr} {ua ub : UE}
/-- list(zip(a, b)) -/
def uZip (ua ub : UE) : UL := fun ρ k => ua ρ fun x => ub ρ fun y => ∃ ds es, x = .lst ds ∧ y = .lst es ∧ k ((ds.zip es).map fun p => .tup [p.1, p.2])
theorem o_zip {p1 p2 pos1 pos2 : Pos} (ha : PE3 X e1 ua) (hb : PE3 X e2 ub) (hc : X.calm = true) (hgl : Gl X "list") (hml : X.mg "list" = none) (hgz : Gl X "zip") (hmz : X.mg "zip" = none)
    (he1 : starEach [.Call (.Name "zip" p2) [e1, e2] [] pos2] X.env = (false, eval (.Call (.Name "zip" p2) [e1, e2] [] pos2) X.env) :: starEach [] X.env := by rfl)
    (he2 : starEach [e1, e2] X.env = (false, eval e1 X.env) :: starEach [e2] X.env := by rfl) (he3 : starEach [e2] X.env = (false, eval e2 X.env) :: starEach [] X.env := by rfl) (hpl : (backTo pos2 (starEach [e2] X.env)).any (·.1) = false := by rfl) :
    PO3 X (.Call (.Name "list" p1) [.Call (.Name "zip" p2) [e1, e2] [] pos2] [] pos1) (uZip ua ub) := by
  obtain ⟨_, h1, r1⟩ := ha; obtain ⟨_, h2, r2⟩ := hb
  refine ⟨_, pe_listzip (pa_cons h1 (pa_cons h2 pa_nil he3) he2) hc hgl hml hgz hmz he1 he2 hpl, fun ρ k h R W B H σ Q e q => ?_⟩
  refine r1 ρ _ h R W B H σ _ e fun d v B1 H1 z1 e1 g1 s1 => ?_
  refine r2 ρ _ z1 R W B1 H1 σ _ e1 fun d' v' B2 H2 z2 e2 g2 s2 => ?_
  obtain ⟨ds, es, rfl, rfl, z⟩ := z2
  obtain ⟨a, vs, rfl, ha, rs⟩ := (s1.mono g2.s).lstV
  obtain ⟨b, ws, rfl, hb, rt⟩ := s2.lstV
  refine ⟨a, b, vs, ws, rfl, e2.bh _ _ ha, e2.bh _ _ hb, fun ts S hl nd nS fr frS => ?_⟩
  obtain ⟨e3, g3, r3⟩ := e2.lays rs rt hl nd fr
  obtain ⟨f1, f2, f3, f4, f5⟩ := e3.newO (by rw [lays_old nS]; exact frS) r3
  exact q _ S _ _ _ z f1 ((g1.trans g2).trans g3) f2 f3 f4 r3 f5
end
end L3

namespace L2
open PySem PySem.Spec PyProof.Rows PySem.W
theorem rev_take (its : List Value) : ∀ m, m ≤ its.length → (List.range m).filterMap (fun k => its[its.length - 1 - k]?) = its.reverse.take m
  | 0, _ => rfl
  | m + 1, h => by
    rw [List.range_succ, List.filterMap_append, rev_take its m (by omega), List.take_add_one, List.getElem?_reverse (by omega)]
    congr 1
theorem slicePick_rev (its : List Value) : slicePick its.toArray none none (some (-1)) = its.reverse.toArray := by
  have hb : sliceBounds none none (some (-1)) its.toArray.size = ((its.length : Int) - 1, -1, -1) := by simp [sliceBounds]
  unfold slicePick
  rw [hb]
  have hr : sliceRange ((its.length : Int) - 1) (-1) (-1) = (List.range its.length).map fun k => its.length - 1 - k := by
    unfold sliceRange
    have c : (if (-1 : Int) > 0 then (if (its.length : Int) - 1 < -1 then (-1 - ((its.length : Int) - 1) + -1 - 1) / -1 else 0) else (if (its.length : Int) - 1 > -1 then ((its.length : Int) - 1 - -1 - -1 - 1) / (- -1) else 0)) = (its.length : Int) := by
      rw [if_neg (by decide)]
      split
      · rw [show (- -1 : Int) = 1 by decide, Int.ediv_one]; omega
      · omega
    simp only [c, Int.toNat_natCast]
    refine List.map_congr_left fun k hk => ?_
    omega
  simp only [hr, List.filterMap_map]
  have := rev_take its its.length (Nat.le_refl _)
  rw [List.take_of_length_le (by simp)] at this
  rw [← this]
  have e : ((fun x => its.toArray[x]?) ∘ fun k => its.length - 1 - k) = fun k => its[its.length - 1 - k]? := by
    funext k
    simp
  rw [e]
section
variable {X : Cx} {e st : Expr} {te ts : TE} {p2 pos : Pos}
/-- xs[::-1] of a list: a new list -/
def tRev (te ts : TE) (K : PySem.W.Frag) : TE := fun σ H Q => te σ H fun x H1 => ts σ H1 fun i H2 => i = .int (-1) ∧ ∃ a xs, x = .ref a ∧ SqL K H2 a xs ∧ ∀ p, H2 p = none → Q (.ref p) (upd H2 p (.lst xs.reverse))
theorem pe_rev (he : PE X e te) (hs : PE X st ts) : PE X (.Subscript e (.Slice none none (some st) p2) pos) (tRev te ts X.K) := by
  intro pins s σ H Q I h
  refine Subscript_ (thn (he pins s σ H _ I h) fun v s1 ⟨x, H1, I1, r1, q1⟩ => ?_)
  refine wpAny_Slice ?_
  rw [evalPart_none]
  refine wpAny_pure ?_
  refine wpAny_pure ?_
  rw [evalPart_some]
  refine thn (hs pins s1 σ H1 _ I1 q1) fun u s3 ⟨i, H3, I3, ri, q3⟩ => ?_
  obtain ⟨rfl, a, xs, rfl, hx, q⟩ := q3
  obtain ⟨tk, rfl⟩ := ri
  cases r1
  have I4 : Inv X pins σ H3 { s3 with heap := s3.heap.push { cls := .type "slice", data := .fields #[.none, .none, .int (-1) tk] } } := I3.kept (t' := s3.toks) fun b ob q => Heap.get?_push_of_some _ q
  obtain ⟨its, r, ht, hz⟩ := I4.list hx
  have hlen := r.length
  show wpAny (model X.prog X.w) X.A (subscriptTail e (.Slice none none (some st) p2) (.ref a) (.ref s3.heap.objs.size)) (EP X pins σ Q) X.xe { s3 with heap := s3.heap.push { cls := .type "slice", data := .fields #[.none, .none, .int (-1) tk] } }
  refine tail_any (ops := [.ref a, .ref s3.heap.objs.size]) ht.isList.typeIs slot_list_getitem.lookup ?_ (by with_unfolding_all rfl)
  refine wpAny_getItem_list_slice (st := some (-1)) ht.isList (Heap.IsSliceOf.new ..) .none .none (.int _ _) (by simp) ?_ (by rw [List.size_toArray] <;> omega)
  rw [slicePick_rev]
  refine ⟨.ref _, _, I4.laid (t' := s3.toks) (o := .lst xs.reverse) (fun b ob q => Heap.get?_push_of_some _ q) (Nat.le_refl _) ?_, rfl, q _ (I4.hok.fresh (Nat.le_refl _))⟩
  exact ⟨by rw [List.length_reverse]; exact hz, _, 0, r.reverse, Heap.get?_push_size _ rfl⟩
end
end L2
namespace L3
open PySem L2
section
variable {X : Cx} {e st : Expr} {u us : UE} {p2 pos : Pos}
theorem Reps.reverse {K : PySem.W.Frag} {B : Hp} : ∀ {vs : List V} {ds : List D}, Reps K B vs ds → Reps K B vs.reverse ds.reverse
  | _, _, .nil => .nil
  | _, _, .cons h r => by
    rw [List.reverse_cons, List.reverse_cons]
    exact (Reps.reverse r).append (.cons h .nil)
/-- xs[::-1] -/
def uRev (u us : UE) : UL := fun ρ k => u ρ fun x => us ρ fun i => i = .int (-1) ∧ ∃ ds, itemsD x = some ds ∧ k ds.reverse
theorem o_rev (he : PE3 X e u) (hs : PE3 X st us) : PO3 X (.Subscript e (.Slice none none (some st) p2) pos) (uRev u us) := by
  obtain ⟨_, h1, r1⟩ := he; obtain ⟨_, h2, r2⟩ := hs
  refine ⟨_, pe_rev h1 h2, fun ρ k h R W B H σ Q e q => ?_⟩
  refine r1 ρ _ h R W B H σ _ e fun d v B1 H1 z1 e1 g1 s1 => ?_
  refine r2 ρ _ z1 R W B1 H1 σ _ e1 fun i iv B2 H2 z2 e2 g2 s2 => ?_
  obtain ⟨rfl, ds, hd, z⟩ := z2
  obtain ⟨a, vs, rfl, ha, rs⟩ := itemsD_ok e2.bh (s1.mono g2.s) hd
  refine ⟨s2.intV, a, vs, rfl, ha, fun p hp => ?_⟩
  obtain ⟨f1, f2, f3, f4, f5⟩ := e2.newO hp rs.reverse
  exact q _ p _ B2 _ z f1 (g1.trans g2) f2 f3 f4 rs.reverse f5
end
end L3

namespace Cut
open PySem L2 L3
open PySem.Builtin.Int (intBits)
abbrev F2 := Int × Int
def fneg (x : F2) : F2 := (-x.1, x.2)
/-- r is the share s, in lowest terms -/
def IsF (r s : F2) : Prop := Low r.1 r.2 ∧ 0 < s.2 ∧ r.1 * s.2 = s.1 * r.2
theorem IsF.uniq {r t s : F2} (h : IsF r s) (g : IsF t s) : r = t := by
  have s0 := Int.ne_of_gt h.2.1
  have := low_uniq h.1 g.1 (Int.eq_of_mul_eq_mul_right s0 (by have := h.2.2; have := g.2.2; grind))
  exact Prod.ext this.1 this.2
theorem IsF.low {c d : Int} (hd : 0 < d) : IsF (nrat c d) (c, d) := by
  obtain ⟨l, e, _⟩ := nrat_spec (t := c) (b := d) (Int.ne_of_gt hd)
  exact ⟨l, hd, e⟩
theorem IsF.neg {r s : F2} (h : IsF r s) : IsF (fneg r) (fneg s) := ⟨⟨h.1.1, by show Int.gcd (-r.1) r.2 = 1; rw [Int.neg_gcd]; exact h.1.2⟩, h.2.1, by have := h.2.2; simp only [fneg]; grind⟩
end Cut
namespace Cut
open PySem L2 L3
open PySem.Builtin.Int (intBits)
end Cut
namespace Cut
open PySem L2 L3
open PySem.Builtin.Int (intBits)
theorem nrat_negTop {t b : Int} (hb : 0 < b) : nrat (-t) b = fneg (nrat t b) := (IsF.low hb).uniq ((IsF.low hb).neg)
end Cut

/-! is None; try: return f(..) / except C: return None -/
namespace L2
open PySem PySem.Spec PyProof.Rows PySem.W
section
variable {X : Cx} {pins : List (Addr × Obj)} {σ : St} {H : Hp} {s : Shared}
end
end L2
namespace L3
open PySem L2 PySem.W
section
variable {X : Cx} {a b : Expr} {ua ub : UE} {pos : Pos}
end
end L3

namespace L2
open PySem PySem.Spec PyProof.Rows
section
variable {X : Cx} {pos : Pos}
end
end L2
namespace L3
open PySem L2
section
variable {X : Cx} {w : UL} {pos : Pos}
end
end L3

/-! Tests over lists of one's own as they stand; trees all of whose lists are new; a scope at whose end they are emptied. -/
namespace L3
open PySem L2
section
variable {K : PySem.W.Frag} {R : Hp} {W : Addr → Prop} {B B' H H' : Hp} {σ : St} {ρ : List Sl}
def fz1 : Sl → Sl
  | .own (.l ds) => .val (.lst ds)
  | .own (.d b _ ks ds) => .val (.dct b ks ds)
  | .deep _ => .no
  | s => s
def frW (W : Addr → Prop) (σ : St) (ρ : List Sl) (a : Addr) : Prop := W a ∨ ∃ i : Nat, σ[i]? = some (some (.ref a)) ∧ ρ[i]? = some .bag
def OwnAd (σ : St) (ρ : List Sl) (a : Addr) : Prop := ∃ (i : Nat) (ds : Cn), σ[i]? = some (some (.ref a)) ∧ ρ[i]? = some (.own ds)
open Classical in
noncomputable def frB (B H : Hp) (σ : St) (ρ : List Sl) : Hp := fun a => if OwnAd σ ρ a then H a else B a
theorem frB_own {a : Addr} (h : OwnAd σ ρ a) : frB B H σ ρ a = H a := by unfold frB; rw [if_pos h]
theorem frB_not {a : Addr} (h : ¬ OwnAd σ ρ a) : frB B H σ ρ a = B a := by unfold frB; rw [if_neg h]
theorem Ev.frW_B (e : Ev K R W B H σ ρ) {a : Addr} (h : frW W σ ρ a) : B a = none ∧ Bag H a := by
  rcases h with h | ⟨i, h1, h2⟩
  · exact ⟨e.wb a h, e.wh a h⟩
  · obtain ⟨b, c1, _, c3, c4⟩ := e.bagAt h2
    rw [h1] at c1; cases c1
    exact ⟨c3, c4⟩
theorem Ev.own_out (e : Ev K R W B H σ ρ) {a : Addr} (h : OwnAd σ ρ a) : R a = none ∧ B a = none ∧ H a ≠ none ∧ ¬ frW W σ ρ a := by
  obtain ⟨i, ds, h1, h2⟩ := h
  obtain ⟨b, c1, c2, c3, c4⟩ := e.ownC h2
  rw [h1] at c1; cases c1
  refine ⟨c2, c3, c4.ne, fun z => ?_⟩
  rcases z with z | ⟨j, z1, z2⟩
  · exact e.wr a z c2
  · have := e.sep i j a (.inl ⟨h1, .inr ⟨ds, h2⟩⟩) (.inl ⟨z1, .inl z2⟩)
    subst this
    rw [h2] at z2; cases z2
theorem Ev.deep_out (e : Ev K R W B H σ ρ) {i : Nat} {c : Dp} (h : ρ[i]? = some (.deep c)) {a : Addr} (m : a ∈ c.adr :: c.ins) : ¬ frW W σ ρ a := fun z => by
  rcases z with z | ⟨j, z1, z2⟩
  · exact e.wr a z ((e.deepAt h).2.fr a m).1
  · have := e.sep i j a (.inr ⟨c, h, m⟩) (.inl ⟨z1, .inl z2⟩)
    subst this
    rw [h] at z2; cases z2
theorem Ev.frB_same (e : Ev K R W B H σ ρ) : Same B (frB B H σ ρ) := fun a o h => by
  by_cases z : OwnAd σ ρ a
  · rw [(e.own_out z).2.1] at h; cases h
  · rw [frB_not z]; exact h
theorem Ev.frame (e : Ev K R W B H σ ρ) : Ev K H (frW W σ ρ) (frB B H σ ρ) H σ (ρ.map fz1) := by
  have nb : ∀ a, frW W σ ρ a → frB B H σ ρ a = none := fun a h => by
    by_cases z : OwnAd σ ρ a
    · exact absurd h (e.own_out z).2.2.2
    · rw [frB_not z]; exact (e.frW_B h).1
  refine ⟨⟨fun _ _ z _ => z, fun a o h => ?_, nb, fun a h => (e.frW_B h).2, fun a h => ?_⟩, by rw [List.length_map]; exact e.len, fun i k h => ?_, fun i j a m1 m2 => ?_⟩
  · by_cases z : OwnAd σ ρ a
    · rw [frB_own z] at h; exact h
    · rw [frB_not z] at h; exact e.bh a o h
  · obtain ⟨x, y, q, _⟩ := (e.frW_B h).2
    rw [q]; simp
  · rw [List.getElem?_map] at h
    cases q : ρ[i]? with
    | none => rw [q] at h; cases h
    | some k0 =>
      rw [q] at h
      have h := Option.some.inj h
      subst h
      have z := e.ok i _ q
      cases k0 with
      | no => trivial
      | new d =>
        obtain ⟨v, h1, h2⟩ := z
        refine ⟨v, h1, h2.mono (mixB_re e.toWd e.frB_same (fun a o h => ?_) (fun a z hr => ?_) nb)⟩
        · by_cases z : OwnAd σ ρ a
          · rw [frB_own z] at h; exact h
          · rw [frB_not z] at h; exact e.bh a o h
        · rcases z with z | ⟨i, z1, z2⟩
          · exact z
          · obtain ⟨b, c1, c2, _⟩ := e.bagAt z2
            rw [z1] at c1; cases c1
            exact c2.resolve_right hr
      | deep c => trivial
      | pin v d =>
        obtain ⟨h1, h2⟩ := z
        refine ⟨h1, h2.mono (mixB_re e.toWd e.frB_same (fun a o h => ?_) (fun a z hr => ?_) nb)⟩
        · by_cases z : OwnAd σ ρ a
          · rw [frB_own z] at h; exact h
          · rw [frB_not z] at h; exact e.bh a o h
        · rcases z with z | ⟨i, z1, z2⟩
          · exact z
          · obtain ⟨b, c1, c2, _⟩ := e.bagAt z2
            rw [z1] at c1; cases c1
            exact c2.resolve_right hr
      | val d =>
        obtain ⟨v, h1, h2⟩ := z
        exact ⟨v, h1, h2.mono e.frB_same⟩
      | own ds =>
        obtain ⟨a, h1, h2, h3, z⟩ := z
        cases ds with
        | l ds =>
          obtain ⟨vs, h4, h5⟩ := z
          exact ⟨.ref a, h1, .lst (by rw [frB_own ⟨i, _, join_some h1, q⟩]; exact h4) (h5.mono e.frB_same)⟩
        | d b t ks ds =>
          obtain ⟨ep, as, vs, _, h4, h5, h6, h7⟩ := z
          exact ⟨.ref a, h1, .dct (by rw [frB_own ⟨i, _, join_some h1, q⟩]; exact h4) (h5.mono e.frB_same) h6 (h7.mono e.frB_same)⟩
      | bag =>
        obtain ⟨b, h1, h2, h3, h4⟩ := z
        have w : frW W σ ρ b := .inr ⟨i, join_some h1, q⟩
        exact ⟨b, h1, .inl w, nb b w, h4⟩
  · have back : ∀ i, MutAt σ (ρ.map fz1) i a → MutAt σ ρ i a := fun i m => by
      rcases m with ⟨h1, h2⟩ | ⟨c, h1, _⟩
      rotate_left
      · rw [List.getElem?_map] at h1
        cases q : ρ[i]? with
        | none => rw [q] at h1; cases h1
        | some k0 =>
          rw [q] at h1
          cases k0 with
          | own ds => cases ds <;> cases h1
          | _ => cases h1
      refine .inl ⟨h1, ?_⟩
      rw [List.getElem?_map] at h2
      cases q : ρ[i]? with
      | none => rw [q] at h2; rcases h2 with h2 | ⟨_, h2⟩ <;> cases h2
      | some k0 =>
        rw [q] at h2
        cases k0 with
        | bag => exact .inl rfl
        | no => rcases h2 with h2 | ⟨_, h2⟩ <;> cases h2
        | new d => rcases h2 with h2 | ⟨_, h2⟩ <;> cases h2
        | pin v d => rcases h2 with h2 | ⟨_, h2⟩ <;> cases h2
        | deep d => rcases h2 with h2 | ⟨_, h2⟩ <;> cases h2
        | val d => rcases h2 with h2 | ⟨_, h2⟩ <;> cases h2
        | own ds => cases ds <;> rcases h2 with h2 | ⟨_, h2⟩ <;> cases h2
    exact e.sep i j a (back i m1) (back j m2)
/-- behind whatever ran over the frozen lists: all as ahead -/
theorem Ev.unframe (e : Ev K R W B H σ ρ) (fr : ∀ a o, H a = some o → ¬ frW W σ ρ a → H' a = some o) (wh : ∀ a, frW W σ ρ a → Bag H' a) : Ev K R W B H' σ ρ := by
  have nW : ∀ a, R a ≠ none → ¬ W a → ¬ frW W σ ρ a := fun a h1 h2 z => by
    rcases z with z | ⟨i, z1, z2⟩
    · exact h2 z
    · obtain ⟨b, c1, c2, _⟩ := e.bagAt z2
      rw [z1] at c1; cases c1
      rcases c2 with c2 | c2
      · exact h2 c2
      · exact h1 c2
  refine ⟨⟨fun a o h nw => fr a o (e.fr a o h nw) (nW a (by rw [h]; simp) nw), fun a o h => fr a o (e.bh a o h) fun z => ?_, e.wb, fun a h => wh a (.inl h), e.wr⟩, e.len, fun i k h => ?_, e.sep⟩
  · rw [(e.frW_B z).1] at h; cases h
  · have z := e.ok i k h
    cases k with
    | no => trivial
    | new d => exact z
    | pin v d => exact z
    | val d => exact z
    | own ds =>
      obtain ⟨a, h1, h2, h3, h4⟩ := z
      refine ⟨a, h1, h2, h3, h4.mono (Same.refl _) ?_⟩
      cases q : H a with
      | none => exact absurd q h4.ne
      | some o => exact fr a _ q (e.own_out ⟨i, ds, join_some h1, h⟩).2.2.2
    | deep c =>
      refine ⟨z.1, z.2.fr, z.2.nd, z.2.ok.mono (Same.refl _) fun a ma => ?_⟩
      cases q : H a with
      | none => exact absurd q (z.2.ok.ne ma)
      | some o => exact fr a _ q (e.deep_out h ma)
    | bag =>
      obtain ⟨b, h1, h2, h3, h4⟩ := z
      exact ⟨b, h1, h2, h3, wh b (.inr ⟨i, join_some h1, h⟩)⟩
end
section
variable {K : PySem.W.Frag} {X : Cx} {e : Expr} {es : List Expr} {u : UE} {w : UL} {pos p : Pos}
variable {elt iter tg : Expr} {ifs : List Expr} {scope : Scope} {cl : List (Str × Addr)} {ts fr : List Str} {js : List Nat} {ug : UG} {ut : UT}
end
end L3

/-! Lists emptied: one's own, and all of a new tree's at the end of a scope. -/
namespace L3
open PySem L2
section
variable {K : PySem.W.Frag} {X : Cx} {e : Expr} {es : List Expr} {u : UE} {w : UL} {pos p : Pos} {I : List Nat} {i : Nat} {rest : List Stmt} {uz : UEnds → List Sl → D → List Sl → Prop}
theorem Rep.lst_of {B : Hp} {v : V} {ds : List D} (r : Rep K B v (.lst ds)) : ∃ a vs, v = .ref a ∧ B a = some (.lst vs) ∧ Reps K B vs ds := by
  cases r with | lst h r => exact ⟨_, _, rfl, h, r⟩
end
end L3

/-! Lists of one's own emptied; a new piece's ring emptied. -/
namespace L3
open PySem L2
section
variable {K : PySem.W.Frag} {X : Cx} {e : Expr} {es : List Expr} {u : UE} {w : UL} {pos p : Pos} {i : Nat} {rest : List Stmt}
theorem Ev.no {R : Hp} {W : Addr → Prop} {B H : Hp} {σ : St} {ρ : List Sl} (e : Ev K R W B H σ ρ) (i : Nat) {v : V} : Ev K R W B H (σ.set i (some v)) (ρ.set i .no) :=
  e.set i trivial fun _ _ z => by rcases z with z | ⟨_, z⟩ <;> cases z
end
end L3

namespace L2
open PySem PySem.Spec PyProof.Rows PySem.W
section
variable {X : Cx} {e st : Expr} {te ts : TE} {p2 pos : Pos}
end
end L2
namespace L3
open PySem L2
section
variable {X : Cx} {e st : Expr} {u us : UE} {p2 pos p : Pos} {F : FS} {a0 : Expr}
end
end L3

/-! A tuple of the program's own names, read. -/
namespace L3
open PySem L2
section
variable {X : Cx} {a b : Expr} {ua ub : UE} {pos : Pos}
end
end L3

/-! The head by hand: all objects of the heap behind the top, seen by names; no list of them is written out. -/
namespace L3
open PySem PySem.W L2
def allK (h : Heap) : Frag := (List.range h.objs.size).filterMap fun a => (h.get? a).map fun o => (a, o)
theorem lookup_pairs (g : Nat → Option Obj) (a : Nat) : ∀ l : List Nat, (l.filterMap fun b => (g b).map fun o => (b, o)).lookup a = if a ∈ l then g a else none
  | [] => rfl
  | b :: l => by
    have ih := lookup_pairs g a l
    cases q : g b with
    | none =>
      rw [List.filterMap_cons_none (by rw [q]; rfl), ih]
      by_cases e : a = b
      · subst e; rw [q]; simp
      · simp [e]
    | some o =>
      rw [List.filterMap_cons_some (b := (b, o)) (by rw [q]; rfl), List.lookup_cons]
      by_cases e : a = b
      · subst e; simp [q]
      · have : (a == b) = false := by simpa using e
        simp only [this, ih, List.mem_cons, e, false_or]
theorem allK_at (h : Heap) (a : Addr) : (allK h).lookup a = h.get? a := by
  refine (lookup_pairs h.get? a _).trans ?_
  by_cases e : a < h.objs.size
  · rw [if_pos (List.mem_range.mpr e)]
  · rw [if_neg (fun z => e (List.mem_range.mp z))]
    exact (Heap.get?_none_of_le (Nat.le_of_not_lt e)).symm
theorem allK_in (h : Heap) : Frag.In (allK h) h := fun a o e => by rw [allK_at] at e; exact e
theorem nsH_is (h : Heap) (name : Str) : nsIn (allK h) mainGlobals name = nsH h name := by unfold nsIn nsH; rw [allK_at]; rfl
theorem cdH_is (h : Heap) (cd : Value) (q : Str) : codeIn (allK h) cd q = cdH h cd q := by
  unfold codeIn cdH
  cases cd <;> first | rfl | (simp only [allK_at]; rfl)
def FunOf (K : Frag) (x : Str) (st : Stmt) : Prop := ∃ f fd, nsIn K mainGlobals x = some (some (.ref f)) ∧ Fun K x x st f fd
theorem dueF_is (x : Str) (st : Stmt) : dueF x st = some (x, x, defArgs st, .stmts (defBody st), defScope st, mainGlobals, [], .none, builtinsNs, true) := by cases st <;> rfl
theorem seeF_ok {h : Heap} {x : Str} {st : Stmt} (e : seeF h x = dueF x st) : FunOf (allK h) x st := by
  unfold seeF at e
  split at e
  · rename_i f hf
    split at e
    · rename_i oc od fd osl ho
      obtain ⟨nm, qn, ps, bd, sc, gl, cl, df, kd, doc, pm, an, cdv, ct, bu⟩ := fd
      rw [dueF_is] at e
      simp only [Option.some.injEq, Prod.mk.injEq] at e
      obtain ⟨rfl, rfl, rfl, rfl, rfl, rfl, rfl, rfl, rfl, e⟩ := e
      refine ⟨f, _, by rw [nsH_is]; exact hf, fun_mk (oc := oc) (od := od) (osl := osl) (kV := kd) (doc := doc) (pm := pm) (an := an) (cdv := cdv) (ct := ct) (by rw [allK_at]; exact ho) (by rw [cdH_is]; exact e) ?_⟩
      unfold keepIn
      simp only [allK_at, ho]
    · rw [dueF_is] at e; cases e
  · rw [dueF_is] at e; cases e
/-- the defs, the names that are left to the builtins, the tuples of two ints -/
def AllF (K : Frag) : List (Str × Stmt) → Prop
  | [] => True
  | p :: l => FunOf K p.1 p.2 ∧ AllF K l
def AllB (K : Frag) : List Str → Prop
  | [] => True
  | b :: l => nsIn K mainGlobals b = some none ∧ AllB K l
def TupOf (K : Frag) (x : Str) (i j : Int) : Prop := ∃ p od sl n ti tj, nsIn K mainGlobals x = some (some (.ref p)) ∧ K.lookup p = some ⟨.type "tuple", od, .seq #[.int i ti, .int j tj] n, sl⟩
def AllT (K : Frag) : List (Str × Int × Int) → Prop
  | [] => True
  | p :: l => TupOf K p.1 p.2.1 p.2.2 ∧ AllT K l
def ConOf (K : Frag) (x : Str) (c : Int ⊕ Str) : Prop := match c with
  | .inl i => ∃ t, nsIn K mainGlobals x = some (some (.int i t))
  | .inr s => ∃ t, nsIn K mainGlobals x = some (some (.str s t))
def AllC (K : Frag) : List (Str × (Int ⊕ Str)) → Prop
  | [] => True
  | p :: l => ConOf K p.1 p.2 ∧ AllC K l
structure Tab (t : Tabs) (K : Frag) : Prop where
  tf : AllF K t.fs
  tb : AllB K t.bs
  tt : AllT K t.ts
  tc : AllC K t.cs
def saysH (t : Tabs) (_ : World) (h : Heap) : Prop := ∃ K : Frag, K.In h ∧ Tab t K
theorem allF_of {h : Heap} : ∀ {l : List (Str × Stmt)}, (l.map fun p => seeF h p.1) = (l.map fun p => dueF p.1 p.2) → AllF (allK h) l
  | [], _ => trivial
  | p :: l, e => by
    simp only [List.map_cons, List.cons.injEq] at e
    exact ⟨seeF_ok e.1, allF_of e.2⟩
theorem allB_of {h : Heap} : ∀ {l : List Str}, (l.map fun b => nsH h b) = (l.map fun _ => some none) → AllB (allK h) l
  | [], _ => trivial
  | p :: l, e => by
    simp only [List.map_cons, List.cons.injEq] at e
    exact ⟨by rw [nsH_is]; exact e.1, allB_of e.2⟩
theorem seeT_ok {h : Heap} {x : Str} {i j : Int} (e : seeT h x = some (x, i, j)) : TupOf (allK h) x i j := by
  unfold seeT at e
  split at e
  · rename_i p hp
    split at e
    · rename_i od its n sl ho
      split at e
      · rename_i i' ti j' tj hi
        simp only [Option.some.injEq, Prod.mk.injEq] at e
        obtain ⟨_, rfl, rfl⟩ := e
        have ea : its = #[.int i' ti, .int j' tj] := Array.toList_inj.mp hi
        subst ea
        exact ⟨p, od, sl, n, ti, tj, by rw [nsH_is]; exact hp, by rw [allK_at]; exact ho⟩
      · cases e
    · cases e
  · cases e
theorem allT_of {h : Heap} : ∀ {l : List (Str × Int × Int)}, (l.map fun p => seeT h p.1) = (l.map fun p => some p) → AllT (allK h) l
  | [], _ => trivial
  | p :: l, e => by
    simp only [List.map_cons, List.cons.injEq] at e
    exact ⟨seeT_ok e.1, allT_of e.2⟩
theorem seeC_ok {h : Heap} {x : Str} {c : Int ⊕ Str} (e : seeC h x = some (x, c)) : ConOf (allK h) x c := by
  unfold seeC at e
  split at e
  · rename_i i t hp
    simp only [Option.some.injEq, Prod.mk.injEq] at e
    obtain ⟨_, rfl⟩ := e
    exact ⟨t, by rw [nsH_is]; exact hp⟩
  · rename_i i t hp
    simp only [Option.some.injEq, Prod.mk.injEq] at e
    obtain ⟨_, rfl⟩ := e
    exact ⟨t, by rw [nsH_is]; exact hp⟩
  · cases e
theorem allC_of {h : Heap} : ∀ {l : List (Str × (Int ⊕ Str))}, (l.map fun p => seeC h p.1) = (l.map fun p => some p) → AllC (allK h) l
  | [], _ => trivial
  | p :: l, e => by
    simp only [List.map_cons, List.cons.injEq] at e
    exact ⟨seeC_ok e.1, allC_of e.2⟩
theorem ofH (t : Tabs) (w : World) (s : Shared) (e : obsH t s = valH t w) : saysH t w s.heap := by
  simp only [obsH, valH, Prod.mk.injEq] at e
  exact ⟨allK s.heap, allK_in _, allF_of e.1, allB_of e.2.1, allT_of e.2.2.1, allC_of e.2.2.2⟩
theorem keepsH (t : Tabs) (w : World) (h h' : Heap) (y : saysH t w h) (k : ∀ b o, h.get? b = some o → h'.get? b = some o) : saysH t w h' := by
  obtain ⟨K, x, r⟩ := y
  exact ⟨K, x.keeps k, r⟩
theorem FunOf.fnd {K : Frag} {h : Heap} {mg : Str → Option Value} {x : Str} {st : Stmt} {ps : List Str} (X : K.In h) (G : h.Ns mainGlobals mg) (F : FunOf K x st) (b : ∀ f fd, Fun K x x st f fd → Binds K fd ps []) : Fnd K mg x st ps := by
  obtain ⟨f, fd, m, F⟩ := F
  exact ⟨f, fd, mg_of X G m, F, b f fd F⟩
/-- the walk of the law, from what is seen -/
theorem walkH {l : OpenLaw} {k : Nat} {q : Program} {loose : List Str} {XP : (Str → Option Value) → Heap → Prop} {t : Tabs} {d : DefRec} (hn : l.most = some 63) (hdf : d.params.defaults = []) (hr : Room k callerA)
    (F : ∀ (w : World) (K : Frag) (mg : Str → Option Value) (fa : Addr) (h : Heap), Tab t K → K.In h → h.Ns mainGlobals mg → mg d.name = some (.ref fa) →
      ∃ fd : FuncData, (∀ (s : Shared) (u : Value), BindsTo s fd ⟨[u], []⟩ [("_law_script", u)]) ∧ ∀ base : Heap, K.In base → base.Ns mainGlobals mg → FnOk l.prog w K mg base CX0 k fa fd ["_law_script"] (spLaw K)) :
    WalkO q loose XP (saysH t) l.row.toRowW d [] (fun f vs => PySem.call f vs) := by
  refine Att.attach_call hn hdf fun w s₀ s₁ mg mb fa o pm cd doc a vs ns G Y ho hd hcd hmg hobj hints hlen hg => ?_
  obtain ⟨K, KX, T⟩ := Y
  obtain ⟨fd, hb, hF⟩ := F w K mg fa _ T KX G.T.g hmg
  exact law_call KX G.T.g G.T.b G.T.builtins G.T.nolimit hg hobj hints (Nat.le_trans hlen (by decide)) hr hF hb (fun H hO hS => ⟨a, ns, rfl, hS, hlen, fun _ => rfl⟩) fun H e s' z => z
end L3

/-! A list unpacked to names. -/
namespace L2
open PySem PySem.Spec PyProof.Rows PySem.W
section
variable {prog : Program} {w : World} {A : Around} {E : Value → Shared → Prop} {s : Shared}
end
section
variable {X : Cx} {pos : Pos}
end
end L2
namespace L3
open PySem L2
section
variable {X : Cx} {es : List Expr} {pos : Pos}
end
end L3

namespace Cut
open PySem L2 L3
open PySem.Builtin.Int (intBits)
def sld (g p : P3) : P3 := (p.1 * g.2.2 + g.1 * p.2.2, p.2.1 * g.2.2 + g.2.1 * p.2.2, p.2.2 * g.2.2)
def trn (p : P3) : P3 := (-p.1, -p.2.1, p.2.2)
end Cut

namespace Cut
open PySem L2 L3
open PySem.Builtin.Int (intBits)
theorem cop_of {a b : Int} (h : ∀ k : Int, k ∣ a → k ∣ b → k ∣ 1) : Int.gcd a b = 1 := by
  have q := Int.natAbs_dvd_natAbs.mpr (h _ (Int.gcd_dvd_left a b) (Int.gcd_dvd_right a b))
  simpa using q
theorem cop_out {a b k : Int} (g : Int.gcd a b = 1) (h1 : k ∣ a) (h2 : k ∣ b) : k ∣ 1 := by
  have := Int.dvd_coe_gcd h1 h2
  rw [g] at this
  exact this
theorem dvd_co' {k n m : Int} (h : k ∣ n * m) (g : Int.gcd k m = 1) : k ∣ n := dvd_co (by rw [Int.mul_comm]; exact h) g
theorem cop_sub {a b k : Int} (g : Int.gcd a b = 1) (h : k ∣ a) : Int.gcd k b = 1 := cop_of fun j h1 h2 => cop_out g (Int.dvd_trans h1 h) h2
theorem nrat_eq {x y t b : Int} (l : Low x y) (hb : b ≠ 0) (e : x * b = t * y) : nrat t b = (x, y) := by
  rw [← nrat_low l]
  exact nrat_cross hb (Int.ne_of_gt l.1) e.symm
theorem npt_eq {x y z a b n : Int} (p : Pt x y z) (hn : n ≠ 0) (e1 : x * n = a * z) (e2 : y * n = b * z) : npt a b n = (x, y, z) := by
  obtain ⟨q, f1, f2, _⟩ := npt_spec (a := a) (b := b) hn
  obtain ⟨h1, h2, h3⟩ := pt_uniq q p (Int.eq_of_mul_eq_mul_right hn (by grind)) (Int.eq_of_mul_eq_mul_right hn (by grind))
  exact Prod.ext h1 (Prod.ext h2 h3)
theorem gcd_parts {a b : Int} (h : a ≠ 0 ∨ b ≠ 0) : ∃ x y : Int, a = ((Int.gcd a b : Nat) : Int) * x ∧ b = ((Int.gcd a b : Nat) : Int) * y ∧ Int.gcd x y = 1 := by
  obtain ⟨x, hx⟩ := Int.gcd_dvd_left a b
  obtain ⟨y, hy⟩ := Int.gcd_dvd_right a b
  refine ⟨x, y, hx, hy, ?_⟩
  have pos : 0 < Int.gcd a b := by
    rcases h with h | h
    · exact Int.gcd_pos_of_ne_zero_left b h
    · exact Int.gcd_pos_of_ne_zero_right a h
  have q : Int.gcd a b = (((Int.gcd a b : Nat) : Int)).natAbs * Int.gcd x y := gcd_fac hx hy
  rw [Int.natAbs_natCast] at q
  exact Nat.eq_of_mul_eq_mul_left pos (by omega)
theorem gcd_ne {a b : Int} (h : a ≠ 0 ∨ b ≠ 0) : ((Int.gcd a b : Nat) : Int) ≠ 0 := by
  have pos : 0 < Int.gcd a b := by
    rcases h with h | h
    · exact Int.gcd_pos_of_ne_zero_left b h
    · exact Int.gcd_pos_of_ne_zero_right a h
  omega
theorem gcd_pos2 {a b : Int} (h : a ≠ 0 ∨ b ≠ 0) : 0 < ((Int.gcd a b : Nat) : Int) := by
  have := gcd_ne h
  omega
theorem pos_r {s y : Int} (s0 : 0 < s) (h : 0 < s * y) : 0 < y := Int.pos_of_mul_pos_right h s0
/-- what the sum of two ratios shares with a part of the one's bottom -/
theorem sum_cop {x y u k Y V : Int} (g : Int.gcd x y = 1) (hy : Y ∣ y) (gY : Int.gcd Y V = 1) (h1 : k ∣ x * V + u * Y) (h2 : k ∣ Y) : k ∣ 1 := by
  have h3 : k ∣ x * V := by
    have := Int.dvd_sub h1 (Int.dvd_mul_of_dvd_right h2 (b := u))
    simpa using this
  exact cop_out g (dvd_co' h3 (cop_sub gY h2)) (Int.dvd_trans h2 hy)
theorem plus_low {x y u v : Int} (l1 : Low x y) (l2 : Low u v) {s top d : Int} (hs : s = (Int.gcd y v : Nat)) (ht : top = x * v.fdiv s + u * y.fdiv s) (hd : d = (Int.gcd s top : Nat)) :
    (top.fdiv d, y.fdiv s * v.fdiv d) = nrat (x * v + u * y) (y * v) := by
  obtain ⟨y0, g1⟩ := l1
  obtain ⟨v0, g2⟩ := l2
  obtain ⟨Y, V, hY, hV, gYV⟩ := gcd_parts (a := y) (b := v) (.inl (Int.ne_of_gt y0))
  have s0 : 0 < s := by rw [hs]; exact gcd_pos2 (.inl (Int.ne_of_gt y0))
  rw [← hs] at hY hV
  have s1 := Int.ne_of_gt s0
  rw [fdiv_of hV s1, fdiv_of hY s1] at ht
  obtain ⟨S, T, hS, hT, gST⟩ := gcd_parts (a := s) (b := top) (.inl s1)
  have d0 : 0 < d := by rw [hd]; exact gcd_pos2 (.inl s1)
  rw [← hd] at hS hT
  have d1 := Int.ne_of_gt d0
  have hv2 : v = d * (S * V) := by rw [hV, hS, Int.mul_assoc]
  rw [fdiv_of hT d1, fdiv_of hY s1, fdiv_of hv2 d1]
  have Y0 : 0 < Y := pos_r s0 (by omega)
  have V0 : 0 < V := pos_r s0 (by omega)
  have S0 : 0 < S := pos_r d0 (by omega)
  refine (nrat_eq ⟨Int.mul_pos Y0 (Int.mul_pos S0 V0), ?_⟩ (Int.ne_of_gt (Int.mul_pos y0 v0)) ?_).symm
  · refine cop_of fun k h1 h2 => ?_
    have kt : k ∣ top := by rw [hT]; exact Int.dvd_mul_of_dvd_right h1
    have c1 : Int.gcd k Y = 1 := cop_of fun j j1 j2 => sum_cop g1 ⟨s, by rw [hY, Int.mul_comm]⟩ gYV (by rw [← ht]; exact Int.dvd_trans j1 kt) j2
    have c2 : Int.gcd k V = 1 := cop_of fun j j1 j2 => sum_cop (x := u) (u := x) (Y := V) (V := Y) g2 ⟨s, by rw [hV, Int.mul_comm]⟩ (by rw [Int.gcd_comm]; exact gYV) (by rw [Int.add_comm, ← ht]; exact Int.dvd_trans j1 kt) j2
    exact cop_out gST (dvd_co' (dvd_co h2 c1) c2) h1
  · grind
theorem pt_cop {x y z : Int} (h : ∀ k : Int, k ∣ x → k ∣ y → k ∣ z → k ∣ 1) : Int.gcd (Int.gcd x y : Nat) z = 1 :=
  cop_of fun k h1 h2 => h k (Int.dvd_trans h1 (Int.gcd_dvd_left x y)) (Int.dvd_trans h1 (Int.gcd_dvd_right x y)) h2
theorem pt_out {x y z k : Int} (g : Int.gcd (Int.gcd x y : Nat) z = 1) (h1 : k ∣ x) (h2 : k ∣ y) (h3 : k ∣ z) : k ∣ 1 := cop_out g (Int.dvd_coe_gcd h1 h2) h3
/-- what a slid point's places share with a part of the one bottom -/
theorem slid_cop {a b n r w k N M : Int} (g : Int.gcd (Int.gcd a b : Nat) n = 1) (hn : N ∣ n) (gN : Int.gcd N M = 1) (h1 : k ∣ a * M + r * N) (h2 : k ∣ b * M + w * N) (h3 : k ∣ N) : k ∣ 1 := by
  have q1 : k ∣ a * M := by
    have := Int.dvd_sub h1 (Int.dvd_mul_of_dvd_right h3 (b := r))
    simpa using this
  have q2 : k ∣ b * M := by
    have := Int.dvd_sub h2 (Int.dvd_mul_of_dvd_right h3 (b := w))
    simpa using this
  exact pt_out g (dvd_co' q1 (cop_sub gN h3)) (dvd_co' q2 (cop_sub gN h3)) (Int.dvd_trans h3 hn)
theorem slid_low {a b n r w m : Int} (p1 : Pt a b n) (p2 : Pt r w m) {s X Y d : Int} (hs : s = (Int.gcd n m : Nat)) (hX : X = a * m.fdiv s + r * n.fdiv s) (hYY : Y = b * m.fdiv s + w * n.fdiv s) (hd : d = (Int.gcd ((Int.gcd s X : Nat) : Int) Y : Nat)) :
    (X.fdiv d, Y.fdiv d, n.fdiv s * m.fdiv d) = npt (a * m + r * n) (b * m + w * n) (n * m) := by
  obtain ⟨n0, g1⟩ := p1
  obtain ⟨m0, g2⟩ := p2
  obtain ⟨N, M, hN, hM, gNM⟩ := gcd_parts (a := n) (b := m) (.inl (Int.ne_of_gt n0))
  have s0 : 0 < s := by rw [hs]; exact gcd_pos2 (.inl (Int.ne_of_gt n0))
  rw [← hs] at hN hM
  have s1 := Int.ne_of_gt s0
  rw [fdiv_of hN s1, fdiv_of hM s1] at hX hYY
  obtain ⟨S1, X1, hS1, hX1, gSX⟩ := gcd_parts (a := s) (b := X) (.inl s1)
  have e1 := gcd_ne (a := s) (b := X) (.inl s1)
  obtain ⟨E, Y1, hE, hY1, gEY⟩ := gcd_parts (a := ((Int.gcd s X : Nat) : Int)) (b := Y) (.inl e1)
  have d0 : 0 < d := by rw [hd]; exact gcd_pos2 (.inl e1)
  rw [← hd] at hE hY1
  have d1 := Int.ne_of_gt d0
  have hS : s = d * (E * S1) := by rw [hS1]; conv => lhs; rw [hE]
                                   rw [Int.mul_assoc]
  have hX2 : X = d * (E * X1) := by rw [hX1]; conv => lhs; rw [hE]
                                    rw [Int.mul_assoc]
  have hm2 : m = d * (E * S1 * M) := by rw [hM, hS, Int.mul_assoc]
  rw [fdiv_of hX2 d1, fdiv_of hY1 d1, fdiv_of hN s1, fdiv_of hm2 d1]
  have N0 : 0 < N := pos_r s0 (by omega)
  have M0 : 0 < M := pos_r s0 (by omega)
  have S0 : 0 < E * S1 := pos_r d0 (by omega)
  refine (npt_eq ⟨Int.mul_pos N0 (Int.mul_pos S0 M0), ?_⟩ (Int.ne_of_gt (Int.mul_pos n0 m0)) ?_ ?_).symm
  · refine pt_cop fun k h1 h2 h3 => ?_
    have kX : k ∣ X := by rw [hX2]; exact Int.dvd_mul_of_dvd_right h1
    have kY : k ∣ Y := by rw [hY1]; exact Int.dvd_mul_of_dvd_right h2
    have c1 : Int.gcd k N = 1 := cop_of fun j j1 j2 => slid_cop g1 ⟨s, by rw [hN, Int.mul_comm]⟩ gNM (by rw [← hX]; exact Int.dvd_trans j1 kX) (by rw [← hYY]; exact Int.dvd_trans j1 kY) j2
    have c2 : Int.gcd k M = 1 := cop_of fun j j1 j2 => slid_cop (a := r) (b := w) (n := m) (r := a) (w := b) (N := M) (M := N) g2 ⟨s, by rw [hM, Int.mul_comm]⟩ (by rw [Int.gcd_comm]; exact gNM) (by rw [Int.add_comm, ← hX]; exact Int.dvd_trans j1 kX) (by rw [Int.add_comm, ← hYY]; exact Int.dvd_trans j1 kY) j2
    have h4 : k ∣ E * S1 := dvd_co' (dvd_co h3 c1) c2
    -- k measures E times both S1 and X1, and so E
    have h5 : k ∣ E := by
      have z := Int.dvd_coe_gcd h4 h1
      rw [Int.gcd_mul_left, gSX, Nat.mul_one] at z
      exact Int.dvd_trans z (Int.natAbs_dvd.mpr (Int.dvd_refl E))
    exact cop_out gEY h5 h2
  · grind
  · grind
end Cut

namespace Cut
open PySem L2 L3
open PySem.Builtin.Int (intBits)
end Cut

namespace Cut
open PySem L2 L3
open PySem.Builtin.Int (intBits)
end Cut

namespace Cut
open PySem L2 L3
open PySem.Builtin.Int (intBits)
section
variable {w h : Int × Int}
end
section
variable {w h : Int × Int}
end
section
variable {s w h : Int × Int}
end
end Cut

/-! Texts: what the library says of them, over values. -/
namespace L2
open PySem PySem.Spec PyProof.Rows PySem.W
section
variable {X : Cx}
end
end L2

/-! Texts: written by parts, walked, compared by a chain. -/
namespace L2
open PySem PySem.Spec PyProof.Rows PySem.W
section
variable {X : Cx}
end
end L2

/-! Trees: texts. -/
namespace L3
open PySem L2
section
variable {X : Cx} {a b c e : Expr} {ua ub uc u : UE} {pos p p1 p2 p3 : Pos}
section
variable {o : Expr} {uo : UE} {ul : UL} {apos cpos : Pos}
end
end
end L3

/-! Texts of numbers: signs as lists. -/
namespace L3
open PySem L2 PyProof.Rows
end L3

/-! Texts: parts, splitting, signs in texts, repetition; all of a list of truth values. -/
namespace L2
open PySem PySem.Spec PyProof.Rows PySem.W
section
variable {X : Cx}
end
end L2

namespace L3
open PySem L2
section
variable {X : Cx} {a b c e : Expr} {ua ub uc u : UE} {pos p p1 p2 p3 : Pos}
section
variable {o : Expr} {uo : UE} {ul : UL} {apos cpos : Pos}
end
end
end L3

/-! Defs that raise: what passes through, over trees. -/
namespace L2
open PySem PySem.Spec PyProof.Rows PySem.W
end L2
namespace L3
open PySem L2 PySem.W
section
variable (K : PySem.W.Frag) (R : Hp)
end
section
variable {X : Cx} {R : Hp} {Z : Prop} {a b c e : Expr} {es : List Expr} {ua ub u u' : UE} {ul : UL} {uc : UT} {s t : US} {pos p : Pos} {E : XK} {C : Addr}
end
section
variable {P : Program} {w : World} {K : PySem.W.Frag} {mg : Str → Option Value} {base : Heap}
end
end L3

/-! Texts that are whole numbers, ratios, points. -/
namespace L3
open PySem L2 PyProof.Rows
end L3

namespace Cut
open PySem L2 L3
open PySem.Builtin.Int (intBits)
end Cut

namespace Cut
open PySem L2 L3
/-! ### a point between two corners -/
end Cut

namespace Cut
open PySem L2 L3
/-! ### a ring cut: what lies at the one hand -/
section
variable (f : P3 → Int) (mt : P3 → P3 → P3)
end
variable {f : P3 → Int} {mt : P3 → P3 → P3}
end Cut

namespace Cut
open PySem L2 L3
end Cut

/-! for i, x in enumerate(l). -/
namespace L2
open PySem PySem.Spec PyProof.Rows PySem.W
section
variable {X : Cx} {pins : List (Addr × Obj)} {σ : St} {H : Hp} {s : Shared} {h' : Heap}
end
end L2
namespace L3
open PySem L2
section
variable {X : Cx} {a : Expr} {u : UE} {pos p : Pos}
end
end L3

namespace L3
open PySem L2
end L3
namespace Cut
open PySem L2 L3
end Cut
namespace Cut
open PySem L2 L3
theorem atI_nat {α : Type} {xs : List α} {i : Nat} {x : α} (h : xs[i]? = some x) : atI xs (i : Int) = some x := by
  have lt : i < xs.length := (List.getElem?_eq_some_iff.mp h).1
  unfold atI
  have e : L2.ixN xs.length (i : Int) = some i := by
    unfold L2.ixN
    rw [if_pos (by omega)]
    simp [lt]
  rw [e]
  exact h
end Cut
namespace Cut
open PySem L2 L3
end Cut
namespace Cut
open PySem L2 L3
end Cut

/-! Arguments that are only looked at: lists that were there at the entry. What a def makes is new then. -/
namespace L3
open PySem L2
def unold : Sl → Sl
  | .new d => .val d
  | .pin _ d => .val d
  | .own (.d _ _ _ _) => .no
  | .deep _ => .no
  | s => s
def look (s : Sl) : Sl := fz1 (unold s)
section
variable {K : PySem.W.Frag} {R : Hp} {W : Addr → Prop} {B B' H H' : Hp} {σ : St} {ρ : List Sl}
theorem look_map : (ρ.map unold).map fz1 = ρ.map look := by rw [List.map_map]; rfl
theorem unold_mut {i : Nat} {a : Addr} (m : MutAt σ (ρ.map unold) i a) : MutAt σ ρ i a := by
  rcases m with ⟨h1, h2⟩ | ⟨c, h1, _⟩
  rotate_left
  · rw [List.getElem?_map] at h1
    cases q : ρ[i]? with
    | none => rw [q] at h1; cases h1
    | some k0 =>
      rw [q] at h1
      cases k0 with
      | own ds => cases ds <;> cases h1
      | _ => cases h1
  refine .inl ⟨h1, ?_⟩
  rw [List.getElem?_map] at h2
  cases q : ρ[i]? with
  | none => rw [q] at h2; rcases h2 with h2 | ⟨_, h2⟩ <;> cases h2
  | some k0 =>
    rw [q] at h2
    cases k0 with
    | bag => exact .inl rfl
    | own ds => exact .inr ⟨ds, rfl⟩
    | no => rcases h2 with h2 | ⟨_, h2⟩ <;> cases h2
    | new d => rcases h2 with h2 | ⟨_, h2⟩ <;> cases h2
    | pin v d => rcases h2 with h2 | ⟨_, h2⟩ <;> cases h2
    | deep d => rcases h2 with h2 | ⟨_, h2⟩ <;> cases h2
    | val d => rcases h2 with h2 | ⟨_, h2⟩ <;> cases h2
theorem unold_bag {i : Nat} : (ρ.map unold)[i]? = some .bag ↔ ρ[i]? = some .bag := by
  rw [List.getElem?_map]
  constructor
  · intro h
    cases q : ρ[i]? with
    | none => rw [q] at h; cases h
    | some k0 =>
      rw [q] at h
      cases k0 with
      | bag => rfl
      | own ds => cases ds <;> cases h
      | no => cases h
      | new d => cases h
      | pin v d => cases h
      | deep d => cases h
      | val d => cases h
  · intro h; rw [h]; rfl
theorem unold_frW {a : Addr} : frW W σ (ρ.map unold) a ↔ frW W σ ρ a := by
  unfold frW
  constructor
  · rintro (h | ⟨i, h1, h2⟩)
    · exact .inl h
    · exact .inr ⟨i, h1, unold_bag.mp h2⟩
  · rintro (h | ⟨i, h1, h2⟩)
    · exact .inl h
    · exact .inr ⟨i, h1, unold_bag.mpr h2⟩
/-- all that is only looked at, as plain values -/
theorem Ev.wide (e : Ev K R W B H σ ρ) : Ev K R W (mixB R W B) H σ (ρ.map unold) := by
  have nm : ∀ a, R a = none → mixB R W B a = B a := fun a h => mixB_no fun vs z => by rw [h] at z; cases z
  refine ⟨⟨e.fr, mixB_now e.toWd, fun a z => by rw [mixB_W z]; exact e.wb a z, e.wh, e.wr⟩, by rw [List.length_map]; exact e.len, fun i k h => ?_, fun i j a m1 m2 => e.sep i j a (unold_mut m1) (unold_mut m2)⟩
  rw [List.getElem?_map] at h
  cases q : ρ[i]? with
  | none => rw [q] at h; cases h
  | some k0 =>
    rw [q] at h
    have h := Option.some.inj h
    subst h
    have z := e.ok i _ q
    cases k0 with
    | no => trivial
    | new d => exact z
    | pin v d => exact ⟨v, z⟩
    | deep c => trivial
    | val d =>
      obtain ⟨v, h1, h2⟩ := z
      exact ⟨v, h1, h2.mono (mixB_in e.toWd)⟩
    | own ds =>
      cases ds with
      | d _ _ _ _ => trivial
      | l ds =>
      obtain ⟨a, h1, h2, h3, h4⟩ := z
      exact ⟨a, h1, h2, by rw [nm a h2]; exact h3, h4.mono (mixB_in e.toWd) rfl⟩
    | bag =>
      obtain ⟨b, h1, h2, h3, h4⟩ := z
      refine ⟨b, h1, h2, ?_, h4⟩
      rcases h2 with h2 | h2
      · rw [mixB_W h2]; exact h3
      · rw [nm b h2]; exact h3
noncomputable abbrev lookB (R : Hp) (W : Addr → Prop) (B H : Hp) (σ : St) (ρ : List Sl) : Hp := frB (mixB R W B) H σ (ρ.map unold)
theorem Ev.lookF (e : Ev K R W B H σ ρ) : Ev K H (frW W σ (ρ.map unold)) (lookB R W B H σ ρ) H σ (ρ.map look) := by
  have := e.wide.frame
  rw [look_map] at this
  exact this
end
section
variable {K : PySem.W.Frag} {X : Cx} {e : Expr} {es : List Expr} {u : UE} {w : UL} {pos p : Pos}
variable {tg : Expr}
variable {elt iter : Expr} {ifs : List Expr} {scope : Scope} {cl : List (Str × Addr)} {ts fr : List Str} {js : List Nat} {ug : UG} {ut : UT}
end
/-! ### a def that only looks at its lists: what it hands back is new -/
section
variable {K : PySem.W.Frag}
end
end L3

namespace Cut
open PySem L2 L3
/-! ### the sides of a ring -/
/-! ### a ring's cut, side by side -/
section
variable {f : P3 → Int} {mt : P3 → P3 → P3}
end
end Cut

namespace Cut
open PySem L2 L3
open PySem.Builtin.Int (intBits)
section
variable {l : P3} {mt : P3 → P3 → P3} {ps : List P3}
end
section
variable {l : P3} {mt : P3 → P3 → P3} {ps : List P3}
end
end Cut

namespace Cut
open PySem L2 L3
open PySem.Builtin.Int (intBits)
section
variable {f : P3 → Int} {mt : P3 → P3 → P3} {T : P3 → P3 → Rat} {V : P3 → Prop}
end
end Cut

/-! A scope: what stood ahead is only looked at, each slot pinned; what is made within is new; at the end new lists are emptied and all is as ahead. -/
namespace L3
open PySem L2
section
variable {K : PySem.W.Frag} {X : Cx} {e : Expr} {es : List Expr} {u : UE} {w : UL} {pos p : Pos} {rest : List Stmt} {uz : UZ2}
end
end L3
namespace L3
open PySem L2
section
variable {K : PySem.W.Frag} {X : Cx} {a b e : Expr} {es : List Expr} {ua ub u : UE} {w : UL} {pos p : Pos} {F : FS} {a0 : Expr}
end
end L3
namespace L3
open PySem L2
section
variable {X : Cx} {e : Expr} {u : UE} {pos : Pos}
end
end L3

namespace L3
open PySem L2
end L3
namespace Cut
open PySem L2 L3
open PySem.Builtin.Int (intBits)
end Cut

namespace Cut
open PySem L2 L3
end Cut
namespace L3
open PySem L2
end L3
namespace Cut
open PySem L2 L3
open PySem.Builtin.Int (intBits)
end Cut
namespace Cut
open PySem L2 L3
open PySem.Builtin.Int (intBits)
end Cut

namespace Cut
open PySem L2 L3
open PySem.Builtin.Int (intBits)
end Cut

namespace Cut
open PySem L2 L3
open PySem.Builtin.Int (intBits)
end Cut

namespace Cut
open PySem L2 L3
open PySem.Builtin.Int (intBits)
/-! ### how many corners a cut has -/
section
variable (f : P3 → Int)
end
end Cut

/-! What is looked at, given another name; an item of a new tree; a scope that ends with one list emptied. -/
namespace L3
open PySem L2
section
variable {K : PySem.W.Frag} {X : Cx} {a b e : Expr} {es : List Expr} {ua ub u : UE} {w : UL} {pos p : Pos} {rest : List Stmt}
end
end L3
namespace L3
open PySem L2
section
variable {X : Cx} {rest : List Stmt} {uz : UZ2}
end
end L3
namespace L3
open PySem L2
section
variable {X : Cx} {F : FS} {a0 : Expr} {pos p : Pos}
end
end L3

namespace L3
open PySem L2
def dPr (e : Cut.P3 × Cut.P3) : D := .tup [Cut.dP e.1, Cut.dP e.2]
end L3
namespace Cut
open PySem L2 L3
open PySem.Builtin.Int (intBits)
end Cut
namespace Cut
open PySem L2 L3
end Cut
namespace L3
end L3
namespace Cut
open PySem L2 L3
end Cut

/-! Sets of things that are no plain values: the table's search ends. -/
namespace Tab
open PySem PySem.SetTable
/-! ### the search -/
variable {t : SetTable} {hashAt : Nat → Int} {h : Int}
theorem sub_len : ∀ {l m : List Nat}, l.Nodup → (∀ x ∈ l, x ∈ m) → l.length ≤ m.length
  | [], _, _, _ => Nat.zero_le _
  | a :: l, m, hn, h => by
    have ha := h a List.mem_cons_self
    have ih := sub_len (l := l) (m := m.erase a) (List.nodup_cons.mp hn).2 fun x hx => (List.mem_erase_of_ne (fun e => (List.nodup_cons.mp hn).1 (by rw [← e]; exact hx))).mpr (h x (List.mem_cons_of_mem _ hx))
    have e := List.length_erase_of_mem ha
    have p := List.length_pos_of_mem ha
    rw [List.length_cons]
    omega
end Tab

/-! Tables laid anew. -/
namespace Tab
open PySem PySem.SetTable
end Tab

/-! Sets of tuples of ints: an element added. -/
namespace Tab
open PySem PySem.SetTable
section
variable {t : SetTable} {hashAt : Nat → Int} {h : Int}
end
section
variable {prog : Program} {w : World} {A : Around} {E : Value → Shared → Prop} {s : Shared}
end
end Tab

/-! Sets of tuples of ints: looking for one, adding one. -/
namespace Tab
open PySem PySem.SetTable
section
variable {prog : Program} {w : World} {A : Around} {E : Value → Shared → Prop} {s : Shared}
end
end Tab

/-! Sets of tuples of ints: adding one. -/
namespace Tab
open PySem PySem.SetTable
section
variable {prog : Program} {w : World} {A : Around} {E : Value → Shared → Prop} {s : Shared}
end
end Tab

/-! set(l) of a list of tuples of ints. -/
namespace Tab
open PySem PySem.SetTable
section
variable {prog : Program} {w : World} {A : Around} {E : Value → Shared → Prop} {s : Shared}
end
end Tab

/-! len(set(a)), a a list of tuples of ints: runs, and tells some number. -/
namespace L2
open PySem PySem.Spec PyProof.Rows PySem.W
end L2
namespace L3
open PySem L2
end L3

/-! max and min of two values that are in the heap: one of the two. -/
namespace Tab
open PySem
section
variable {prog : Program} {w : World} {A : Around} {E : Value → Shared → Prop} {s : Shared}
end
end Tab

/-! Tuples of ints compared by > and <=: some truth value. -/
namespace HT
open PySem PySem.Spec PyProof.Rows
open PySem.SeqAt
open PySem.AutoSeq1 (wpAny_loadPart')
open PySem.MeetsSeq PySem.MeetsSeq2 PySem.MeetsSeq3
end HT

/-! max, min and <= of tuples of ints, in trees. -/
namespace L2
open PySem PySem.Spec PyProof.Rows PySem.W
variable {X : Cx}
end L2
namespace L3
open PySem L2
variable {X : Cx} {a b : Expr} {ua ub : UE} {p pos : Pos}
end L3

/-! range(a, b), x.reverse(). -/
namespace L3
open PySem L2
section
variable {K : PySem.W.Frag} {X : Cx} {pos p : Pos} {tg : Expr}
end
end L3

/-! Dicts whose keys are tuples of ints, or tuples of such tuples. -/
namespace L3
open PySem L2
section
variable {P : Program} {w : World} {A : Around} {E : Value → Shared → Prop} {s : Shared}
/-- the items of a tuple of tuples of ints -/
inductive TupsAre (h : Heap) : List (List Int) → List Value → Prop
  | nil : TupsAre h [] []
  | cons {l : List Int} {a : Addr} {ks : List (List Int)} {us : List Value} (k : IsTupleKey (intKind P w) h l a) (r : TupsAre h ks us) : TupsAre h (l :: ks) (.ref a :: us)
def IsKey2 (P : Program) (w : World) (h : Heap) (ks : List (List Int)) (a : Addr) : Prop := ∃ ob us n, h.get? a = some ob ∧ ob.cls = .type "tuple" ∧ ob.data = .seq us n ∧ TupsAre (P := P) (w := w) h ks us.toList
theorem TupsAre.inj2 {h : Heap} {us : List Value} : ∀ {x y : List (List Int)}, TupsAre (P := P) (w := w) h x us → TupsAre (P := P) (w := w) h y us → x = y := by
  intro x y p
  induction p generalizing y with
  | nil => intro q; cases q; rfl
  | cons k r ih =>
    intro q
    cases q with
    | cons k' r' => rw [k.inj k', ih r']
theorem IsKey2.ty {ks : List (List Int)} {a : Addr} (x : IsKey2 P w s.heap ks a) : s.TypeIs (.ref a) "tuple" := let ⟨ob, _, _, h1, h2, _⟩ := x; ⟨ob, h1, h2⟩
theorem IsKey2.inj2 {h : Heap} {a : Addr} {x y : List (List Int)} (p : IsKey2 P w h x a) (q : IsKey2 P w h y a) : x = y := by
  obtain ⟨o1, u1, n1, a1, _, c1, d1⟩ := p
  obtain ⟨o2, u2, n2, a2, _, c2, d2⟩ := q
  rw [a1] at a2; cases a2
  rw [c1] at c2; cases c2
  exact d1.inj2 d2
theorem TupsAre.keep {h h' : Heap} {d : Addr} {ob : Obj} {es : Array DictEntry} {ep : Nat} (ho : h.get? d = some ob) (hd : ob.data = .dict es ep) (hs : Heap.SameBut d h h') : ∀ {ks : List (List Int)} {us : List Value}, TupsAre (P := P) (w := w) h ks us → TupsAre (P := P) (w := w) h' ks us
  | _, _, .nil => .nil
  | _, _, .cons k r => .cons (k.keeps ho hd hs) (TupsAre.keep ho hd hs r)
theorem IsKey2.keep {h h' : Heap} {ks : List (List Int)} {a d : Addr} {ob : Obj} {es : Array DictEntry} {ep : Nat} (x : IsKey2 P w h ks a) (ho : h.get? d = some ob) (hd : ob.data = .dict es ep) (hs : Heap.SameBut d h h') : IsKey2 P w h' ks a := by
  obtain ⟨o1, u1, n1, a1, b1, c1, d1⟩ := x
  refine ⟨o1, u1, n1, ?_, b1, c1, d1.keep ho hd hs⟩
  have ne : a ≠ d := by
    rintro rfl
    rw [ho] at a1; cases a1
    rw [hd] at c1; cases c1
  exact (hs.2 a ne).trans a1
def draws2 (ks : List (List Int)) : Nat := (ks.map fun l => l.length + 1).sum + 1
theorem hash2 {ks : List (List Int)} {a : Addr} {Q : Int → Shared → Prop} (hu : A.units + 3 < cLine) (hk : IsKey2 P w s.heap ks a) (h : Q (hashK true ks) { s with toks := s.toks + draws2 ks }) : wpAny (model P w) A (pyHash (.ref a)) Q E s := by
  have hT := hk.ty
  obtain ⟨ob, us, n, h1, _, h3, h4⟩ := hk
  unfold pyHash
  first | unfold pyHashByItsType | skip
  first | refine wpAny_bind (wpAny_cRoomFor_or (.inr (by omega)) ?_) | skip
  refine wpAny_bind (wpAny_specialOf hT F.slot_tuple_hash.lookup ?_)
  show wpAny (model P w) A (if (some (Value.builtin "tuple.__hash__") == some Value.none) = true then _ else _) Q E s
  rw [if_neg (by rw [beq_builtin_none]; exact Bool.false_ne_true)]
  refine wpAny_bind (wpAny_specialOf hT F.slot_tuple_hash.lookup ?_)
  show wpAny (model P w) A (callSpecialIfBoundUnlessNone? (.ref a) "__hash__" _ >>= _) Q E s
  refine wpAny_bind (wpAny_callSpecialIfBoundUnlessNone?_slot hT F.slot_tuple_hash (wpAny_call_entry F.slot_tuple_hash hT F.entry_tuple_hash ?_ (F.args_tuple_hash_1 _)))
  show wpAny (model P w) _ (Builtin.Tuple.tupleItemsOf (.ref a) >>= _) _ _ s
  refine wpAny_bind (wpAny_tupleItemsOf h1 h3 ?_)
  refine wpAny_bind ?_
  rw [← Array.forIn_toList]
  refine wpAny_forIn_list _
    (fun rest (b : Array Int) s' => ∃ done left, ks = done ++ left ∧ TupsAre (P := P) (w := w) s.heap left rest ∧ b.toList = done.map (fun l => reduceHash (Builtin.Tuple.tupleHashOf (l.map hashInt))) ∧ s' = { s with toks := s.toks + (done.map fun l => l.length + 1).sum })
    _ ?_ ?_ _ _ ⟨[], ks, rfl, h4, rfl, rfl⟩
  · rintro x rest b s' ⟨done, left, rfl, hl, hb, rfl⟩
    cases hl with
    | @cons l c ks' _ k1 r1 =>
      have fin : ∃ dn lf, done ++ l :: ks' = dn ++ lf ∧ TupsAre (P := P) (w := w) s.heap lf rest ∧ (b.push (reduceHash (Builtin.Tuple.tupleHashOf (l.map hashInt)))).toList = dn.map (fun l => reduceHash (Builtin.Tuple.tupleHashOf (l.map hashInt))) ∧
          ({ s with toks := s.toks + (done.map fun l => l.length + 1).sum + (l.length + 1) } : Shared) = { s with toks := s.toks + (dn.map fun l => l.length + 1).sum } := ⟨done ++ [l], ks', by simp, r1, by simp [hb], by simp [Nat.add_assoc]⟩
      refine wpAny_bind (wpAny_pyHash_tuple (s := { s with toks := s.toks + (done.map fun l => l.length + 1).sum }) (by show A.units + _ < cLine; omega) k1 ?_)
      first
        | exact wpAny_pure fin
        | exact wpAny_bind (wpAny_pure (wpAny_pure fin))
  · rintro b s' ⟨done, left, rfl, hl, hb, rfl⟩
    cases hl
    rw [List.append_nil] at h
    show wpAny (model P w) _ (retInt (Builtin.Tuple.tupleHashOf b.toList)) _ _ _
    rw [hb]
    refine wpAny_ret_mkInt ?_
    generalize hz : Builtin.Tuple.tupleHashOf (done.map fun l => reduceHash (Builtin.Tuple.tupleHashOf (l.map hashInt))) = z
    have e2 : hashK true done = reduceHash z := by rw [← hz]; rfl
    rw [e2] at h
    show wpAny (model P w) _ (if (decide (-(2 : Int) ^ 63 ≤ z) && decide (z < 2 ^ 63)) = true then _ else _) Q E _
    unfold reduceHash at h
    by_cases hr : (decide (-(2 : Int) ^ 63 ≤ z) && decide (z < 2 ^ 63)) = true
    · rw [if_pos hr]
      rw [if_pos hr] at h
      exact wpAny_pure (by simpa [Nat.add_assoc, draws2] using h)
    · rw [if_neg hr]
      rw [if_neg hr] at h
      exact wpAny_bind (wpAny_rule (wpAny_pure (by simpa [Nat.add_assoc, draws2] using h)))
theorem tree2 {x y : List (List Int)} {a b : Addr} {R : PySem.Fin → Shared → Prop} (hu : A.units + 2 < cLine) (hx : IsKey2 P w s.heap x a) (hy : IsKey2 P w s.heap y b) (h : R (.done (.ret (.bool (decide (x = y))))) s) :
    wpAny (model P w) A (Builtin.«tuple.__eq__» ⟨[.ref a, .ref b], []⟩) R E s := by
  have hT := hy.ty
  obtain ⟨o1, xs, n1, a1, _, c1, d1⟩ := hx
  obtain ⟨o2, ys, n2, a2, _, c2, d2⟩ := hy
  show wpAny (model P w) A (isInstance (.ref b) (.type "tuple") >>= _) _ _ s
  refine wpAny_bind (wpAny_isInstance hT isSubtype_tuple_tuple ?_)
  simp only [Bool.not_true, Bool.false_eq_true, if_false]
  refine wpAny_bind (wpAny_tupleItemsOf a1 c1 (wpAny_bind (wpAny_tupleItemsOf a2 c2 (wpAny_bind ?_))))
  refine wpAny_forIn_list _
    (fun rest r s' => r.1 = none ∧ s' = s ∧ ∃ x' y' xs' ys', rest = List.zip xs' ys' ∧ TupsAre (P := P) (w := w) s.heap x' xs' ∧ TupsAre (P := P) (w := w) s.heap y' ys' ∧ decide (x' = y') = decide (x = y) ∧ (xs'.length == ys'.length) = (xs.size == ys.size))
    _ ?_ ?_ _ _ ⟨rfl, rfl, x, y, xs.toList, ys.toList, rfl, d1, d2, rfl, by simp⟩
  · rintro ⟨u, v⟩ rest r s' ⟨hr, rfl, x', y', xs', ys', hz, hx', hy', hdec, hlen⟩
    cases hx' with
    | nil => simp at hz
    | @cons k1 ad1 x2 xs2 h1 hx2 =>
      cases hy' with
      | nil => simp at hz
      | @cons k2 ad2 y2 ys2 h2 hy2 =>
        rw [List.zip_cons_cons, List.cons.injEq, Prod.mk.injEq] at hz
        obtain ⟨⟨rfl, rfl⟩, rfl⟩ := hz
        refine wpAny_bind (wpAny_eqBool_tuple (by omega) h1 h2 ?_)
        by_cases hk : k1 = k2
        · subst hk
          rw [decide_eq_true rfl]
          simp only [Bool.not_true, Bool.false_eq_true, if_false]
          refine wpAny_pure ⟨rfl, rfl, x2, y2, xs2, ys2, rfl, hx2, hy2, ?_, by simpa using hlen⟩
          rw [← hdec]
          by_cases e2 : x2 = y2 <;> simp [e2]
        · rw [decide_eq_false hk]
          simp only [Bool.not_false, if_true]
          have hf : decide (x = y) = false := by rw [← hdec]; simp [hk]
          rw [hf] at h
          exact wpAny_bind (wpAny_pure (wpAny_pure (wpAny_pure h)))
  · rintro ⟨r1, r2⟩ s' ⟨hr, rfl, x', y', xs', ys', hz, hx', hy', hdec, hlen⟩
    simp only at hr
    subst hr
    refine wpAny_pure ?_
    have hfin : (xs.size == ys.size) = decide (x = y) := by
      rw [← hdec, ← hlen]
      cases hx' with
      | nil => cases hy' <;> simp
      | cons _ _ =>
        cases hy' with
        | nil => simp
        | cons _ _ => simp at hz
    show R (.done (.ret (.bool (xs.size == ys.size)))) s'
    rw [hfin]; exact h
theorem eq2 {x y : List (List Int)} {a b : Addr} {Q : Bool → Shared → Prop} (hu : A.units + 3 < cLine) (hx : IsKey2 P w s.heap x a) (hy : IsKey2 P w s.heap y b) (h : Q (decide (x = y)) s) : wpAny (model P w) A (eqBool (.ref a) (.ref b)) Q E s := by
  unfold eqBool
  try with_reducible refine wpAny_holding ?_
  show wpAny (model P w) A (if (Value.ref a == Value.ref b) = true then _ else _) Q E s
  by_cases hab : (Value.ref a == Value.ref b) = true
  · rw [if_pos hab]
    obtain rfl : a = b := by have := eq_of_beq hab; injection this
    obtain rfl := hx.inj2 hy
    exact wpAny_bind (wpAny_rule (wpAny_pure (by simpa using h)))
  · rw [if_neg hab]
    exact wpAny_bind (wpAny_richCompare_same_room (op := .Eq) hx.ty hy.ty F.slot_tuple_eq
      (wpAny_call_entry F.slot_tuple_eq hx.ty F.entry_tuple_eq (tree2 (by show A.units + _ + 2 < cLine; omega) hx hy ⟨_, rfl, (fun e => nomatch e), wpAny_truthy_bool h⟩) (F.args_tuple_eq_2 _ _)) (by omega))
theorem quiet1 (n : Nat) {l : List Int} {a : Addr} {Q : Bool → Shared → Prop} (hk : IsTupleKey (intKind P w) s.heap l a) (h : Q true s) : wpAny (model P w) A (eqIsQuiet (n + 1) (.ref a)) Q E s := by
  have hT := hk.typeIs
  obtain ⟨ob, us, m, h1, _, h3, h4⟩ := hk
  unfold eqIsQuiet
  refine wpAny_bind (wpAny_specialOf hT F.slot_tuple_eq.lookup ?_)
  show wpAny (model P w) A (isInstance (.ref a) (.type "tuple") >>= _) _ _ s
  refine wpAny_bind (wpAny_isInstance hT isSubtype_tuple_tuple ?_)
  simp only [Bool.not_true, Bool.false_eq_true, if_false]
  refine wpAny_bind (wpAny_seqItems h1 h3 (wpAny_bind ?_))
  show wpAny (model P w) A (forIn us _ _) _ _ s
  rw [← Array.forIn_toList]
  refine wpAny_forIn_list _ (fun rest r s' => r.1 = none ∧ s' = s ∧ ∀ v ∈ rest, carriedByValue v = true) _ ?_ ?_ _ _ ⟨rfl, rfl, h4.byValue⟩
  · rintro v rest r s' ⟨hr, rfl, hall⟩
    rw [eqIsQuiet_byValue _ (hall v List.mem_cons_self)]
    refine wpAny_bind (wpAny_pure ?_)
    simp only [Bool.not_true, Bool.false_eq_true, if_false]
    exact wpAny_pure ⟨rfl, rfl, fun u hu' => hall u (List.mem_cons_of_mem _ hu')⟩
  · rintro ⟨r1, r2⟩ s' ⟨hr, rfl, _⟩
    simp only at hr
    subst hr
    exact wpAny_pure h
theorem quiet2 {ks : List (List Int)} {a : Addr} {Q : Bool → Shared → Prop} (hk : IsKey2 P w s.heap ks a) (h : Q true s) : wpAny (model P w) A (eqIsQuiet 8 (.ref a)) Q E s := by
  have hT := hk.ty
  obtain ⟨ob, us, m, h1, _, h3, h4⟩ := hk
  unfold eqIsQuiet
  refine wpAny_bind (wpAny_specialOf hT F.slot_tuple_eq.lookup ?_)
  show wpAny (model P w) A (isInstance (.ref a) (.type "tuple") >>= _) _ _ s
  refine wpAny_bind (wpAny_isInstance hT isSubtype_tuple_tuple ?_)
  simp only [Bool.not_true, Bool.false_eq_true, if_false]
  refine wpAny_bind (wpAny_seqItems h1 h3 (wpAny_bind ?_))
  show wpAny (model P w) A (forIn us _ _) _ _ s
  rw [← Array.forIn_toList]
  refine wpAny_forIn_list _ (fun rest r s' => r.1 = none ∧ s' = s ∧ ∃ left, TupsAre (P := P) (w := w) s.heap left rest) _ ?_ ?_ _ _ ⟨rfl, rfl, ks, h4⟩
  · rintro v rest r s' ⟨hr, rfl, left, hl⟩
    cases hl with
    | @cons l c ks' _ k1 r1 =>
      refine wpAny_bind (quiet1 6 k1 ?_)
      simp only [Bool.not_true, Bool.false_eq_true, if_false]
      exact wpAny_pure ⟨rfl, rfl, ks', r1⟩
  · rintro ⟨r1, r2⟩ s' ⟨hr, rfl, _⟩
    simp only at hr
    subst hr
    exact wpAny_pure h
end
/-- the two kinds of keys -/
def kd (P : Program) (w : World) : Bool → HeapKind P w (List (List Int))
  | false => {
    is := fun h k a => ∃ l, k = [l] ∧ IsTupleKey (intKind P w) h l a
    hash := hashK false
    draws := fun k => (k.headD []).length + 1
    room := fun A => A.units + 3 < cLine
    inj := by rintro h a x y ⟨l, rfl, p⟩ ⟨m, rfl, q⟩; rw [p.inj q]
    keeps := fun ⟨l, e, p⟩ ho hd hs => ⟨l, e, p.keeps ho hd hs⟩
    pyHash := fun hu ⟨l, e, p⟩ h => by subst e; exact wpAny_pyHash_tuple (by omega) p h
    eqBool := fun hu ⟨l, e, p⟩ ⟨m, e', q⟩ h => by subst e e'; exact wpAny_eqBool_tuple (by omega) p q (by simpa using h)
    quiet := fun ⟨l, e, p⟩ h => wpAny_eqIsQuiet_tuple p h }
  | true => {
    is := IsKey2 P w
    hash := hashK true
    draws := draws2
    room := fun A => A.units + 3 < cLine
    inj := fun p q => p.inj2 q
    keeps := fun p ho hd hs => p.keep ho hd hs
    pyHash := fun hu p h => hash2 hu p h
    eqBool := fun hu p q h => eq2 hu p q h
    quiet := fun p h => quiet2 p h }
theorem kd_hash (P : Program) (w : World) (b : Bool) (k : List (List Int)) : (kd P w b).hash k = hashK b k := by cases b <;> rfl
theorem kd_room {P : Program} {w : World} {b : Bool} {A : Around} (h : A.units + 4 < cLine) : (kd P w b).room A.in1 := by
  cases b <;> exact (show A.units + 1 + 3 < cLine by omega)
end L3

/-! Dicts over the hand layer: made, read, written. -/
namespace L3
open PySem L2
/-- the value that goes with a key -/
def lkA {α : Type} : List (List (List Int)) → List α → List (List Int) → Option α
  | k' :: ks, d :: ds, k => if k' = k then some d else lkA ks ds k
  | _, _, _ => none
def rpA {α : Type} : List (List (List Int)) → List α → List (List Int) → α → List α
  | k' :: ks, d :: ds, k, x => (if k' = k then x else d) :: rpA ks ds k x
  | _, ds, _, _ => ds
def ptK (ks : List (List (List Int))) (k : List (List Int)) : List (List (List Int)) := if k ∈ ks then ks else ks ++ [k]
def ptA {α : Type} (ks : List (List (List Int))) (ds : List α) (k : List (List Int)) (x : α) : List α := if k ∈ ks then rpA ks ds k x else ds ++ [x]
def ent3 : List (List (List Int)) → List Addr → List Value → List (List (List Int) × Addr × Value)
  | k :: ks, a :: as, u :: us => (k, a, u) :: ent3 ks as us
  | _, _, _ => []
section
variable {P : Program} {w : World} {b : Bool}
theorem ent_map : ∀ (ks : List (List (List Int))) (as : List Addr) (us : List Value), entK b ks as us = (ent3 ks as us).map (entryOfKey (kd P w b))
  | k :: ks, a :: as, u :: us => by
    rw [entK, ent3, List.map_cons, ← ent_map ks as us]
    unfold entryOfKey
    rw [kd_hash]
  | [], _, _ => by simp [entK, ent3]
  | _ :: _, [], _ => by simp [entK, ent3]
  | _ :: _, _ :: _, [] => by simp [entK, ent3]
theorem ent_keys : ∀ {ks : List (List (List Int))} {as : List Addr} {us : List Value}, as.length = ks.length → us.length = ks.length → (ent3 ks as us).map (·.1) = ks
  | [], _, _, _, _ => by simp [ent3]
  | k :: ks, [], _, h, _ => by simp at h
  | k :: ks, _ :: _, [], _, h => by simp at h
  | k :: ks, a :: as, u :: us, h1, h2 => by
    rw [ent3, List.map_cons, ent_keys (by simpa using h1) (by simpa using h2)]
theorem ent_get : ∀ {ks : List (List (List Int))} {as : List Addr} {us : List Value} (k : List (List Int)), as.length = ks.length → us.length = ks.length → (atKey (ent3 ks as us) k).map (·.2) = lkA ks us k
  | [], _, _, _, _, _ => by simp [ent3, atKey, lkA]
  | k :: ks, [], _, _, h, _ => by simp at h
  | k :: ks, _ :: _, [], _, _, h => by simp at h
  | k' :: ks, a :: as, u :: us, k, h1, h2 => by
    have ih := ent_get (ks := ks) (as := as) (us := us) k (by simpa using h1) (by simpa using h2)
    by_cases e : k' = k
    · simp [ent3, atKey, lkA, e]
    · rw [lkA, if_neg e, ← ih]
      simp [ent3, atKey, List.find?_cons, e]
theorem lk_none {α : Type} : ∀ {ks : List (List (List Int))} {ds : List α} {k : List (List Int)}, ds.length = ks.length → (lkA ks ds k = none ↔ k ∉ ks)
  | [], _, _, _ => by simp [lkA]
  | k' :: ks, [], _, h => by simp at h
  | k' :: ks, d :: ds, k, h => by
    have ih := lk_none (ks := ks) (ds := ds) (k := k) (by simpa using h)
    rw [lkA]
    by_cases e : k' = k
    · simp [e]
    · rw [if_neg e, ih, List.mem_cons]
      constructor
      · intro z w
        rcases w with w | w
        · exact e w.symm
        · exact z w
      · exact fun z w => z (.inr w)
theorem rp_len {α : Type} {x : α} : ∀ (ks : List (List (List Int))) (ds : List α) (k : List (List Int)), (rpA ks ds k x).length = ds.length
  | [], _, _ => by simp [rpA]
  | k' :: ks, [], _ => by simp [rpA]
  | k' :: ks, d :: ds, k => by rw [rpA, List.length_cons, rp_len ks ds k, List.length_cons]
theorem ent_put : ∀ {ks : List (List (List Int))} {as : List Addr} {us : List Value} (k : List (List Int)) (u : Value), (ent3 ks as us).map (putAt k u) = ent3 ks as (rpA ks us k u)
  | [], _, _, _, _ => by simp [ent3]
  | k :: ks, [], _, _, _ => by simp [ent3]
  | k :: ks, _ :: _, [], _, _ => by simp [ent3, rpA]
  | k' :: ks, a :: as, v :: us, k, u => by
    rw [ent3, List.map_cons, ent_put k u, rpA, ent3]
    unfold putAt
    by_cases e : k' = k
    · rw [if_pos e, if_pos e]
    · rw [if_neg e, if_neg e]
theorem ent_snoc : ∀ {ks : List (List (List Int))} {as : List Addr} {us : List Value} (k : List (List Int)) (a : Addr) (u : Value), as.length = ks.length → us.length = ks.length → ent3 (ks ++ [k]) (as ++ [a]) (us ++ [u]) = ent3 ks as us ++ [(k, a, u)]
  | [], [], [], _, _, _, _, _ => rfl
  | [], _ :: _, _, _, _, _, h, _ => by simp at h
  | [], [], _ :: _, _, _, _, _, h => by simp at h
  | k :: ks, [], _, _, _, _, h, _ => by simp at h
  | k :: ks, _ :: _, [], _, _, _, _, h => by simp at h
  | k' :: ks, a' :: as, u' :: us, k, a, u, h1, h2 => by
    rw [List.cons_append, List.cons_append, List.cons_append, ent3, ent_snoc k a u (by simpa using h1) (by simpa using h2), ent3, List.cons_append]
theorem ent_stored {ks : List (List (List Int))} {as : List Addr} {us : List Value} (k : List (List Int)) (a : Addr) (u : Value) (h1 : as.length = ks.length) (h2 : us.length = ks.length) :
    storedH (ent3 ks as us) k a u = ent3 (ptK ks k) (if k ∈ ks then as else as ++ [a]) (ptA ks us k u) := by
  have g := ent_get (as := as) (us := us) k h1 h2
  unfold storedH ptK ptA
  by_cases m : k ∈ ks
  · have s : (atKey (ent3 ks as us) k).isSome = true := by
      have z : ((atKey (ent3 ks as us) k).map (·.2)).isSome = true := by
        rw [g]
        cases q : lkA ks us k with
        | none => exact absurd m ((lk_none h2).mp q)
        | some x => rfl
      rwa [Option.isSome_map] at z
    rw [if_pos s, if_pos m, if_pos m, if_pos m, ent_put]
  · have s : ¬ (atKey (ent3 ks as us) k).isSome = true := by
      have z : ((atKey (ent3 ks as us) k).map (·.2)).isSome = false := by
        rw [g, (lk_none h2).mpr m]; rfl
      rw [Option.isSome_map] at z
      rw [z]; simp
    rw [if_neg s, if_neg m, if_neg m, if_neg m, ent_snoc k a u h1 h2]
/-- the tracked tuple of a key -/
def KeyAt (H : Hp) (b : Bool) (k : List (List Int)) (a : Addr) : Prop := match b with
  | false => ∃ l : List Int, k = [l] ∧ H a = some (.tup (l.map V.int))
  | true => ∃ as : List Addr, H a = some (.tup (as.map V.ref)) ∧ Paired (fun (l : List Int) c => H c = some (.tup (l.map V.int))) k as
theorem ints_are : ∀ {l : List Int} {us : List Value}, Vals (l.map V.int) us → ItemsAre (intKind P w) l us
  | [], _, r => by rw [List.map_nil] at r; cases r; exact .nil
  | i :: l, _, r => by
    rw [List.map_cons] at r
    cases r with
    | cons h t =>
      obtain ⟨t', e⟩ := (show ∃ t, _ = Value.int i t from h)
      subst e
      exact .cons (by simp [intKind, Value.isInt]) (ints_are t)
theorem flat_at {H : Hp} {h : Heap} {l : List Int} {a : Addr} (ok : HOk P w H h) (e : H a = some (.tup (l.map V.int))) : IsTupleKey (intKind P w) h l a := by
  obtain ⟨_, its, r, o, h1, h2, n, h3⟩ := (show ObjOk P w H h a (.tup (l.map V.int)) from ok a _ e)
  exact ⟨o, its.toArray, n, h1, h2, h3, by simpa using ints_are r⟩
theorem tups_are {H : Hp} {h : Heap} (ok : HOk P w H h) : ∀ {ks : List (List Int)} {as : List Addr} {us : List Value}, Paired (fun (l : List Int) c => H c = some (.tup (l.map V.int))) ks as → Vals (as.map V.ref) us → TupsAre (P := P) (w := w) h ks us
  | [], [], _, .nil, r => by rw [List.map_nil] at r; cases r; exact .nil
  | _ :: _, a :: as, _, .cons p q, r => by
    rw [List.map_cons] at r
    cases r with
    | cons h t =>
      cases (show _ = Value.ref a from h)
      exact .cons (flat_at ok p) (tups_are ok q t)
theorem KeyAt.is {H : Hp} {h : Heap} {k : List (List Int)} {a : Addr} (x : KeyAt H b k a) (ok : HOk P w H h) : (kd P w b).is h k a := by
  cases b with
  | false =>
    obtain ⟨l, rfl, e⟩ := x
    exact ⟨l, rfl, flat_at ok e⟩
  | true =>
    obtain ⟨as, e, p⟩ := x
    obtain ⟨_, its, r, o, h1, h2, n, h3⟩ := (show ObjOk P w H h a (.tup (as.map V.ref)) from ok a _ e)
    exact ⟨o, its.toArray, n, h1, h2, h3, by simpa using tups_are ok p r⟩
/-- a tracked dict, its keys tracked -/
structure DcAt (H : Hp) (b : Bool) (a : Addr) (ep : Nat) (ks : List (List (List Int))) (as : List Addr) (vs : List V) : Prop where
  h : H a = some (DicO b a ep ks as vs)
  k : Paired (KeyAt H b) ks as
theorem keys_is {H : Hp} {h : Heap} (ok : HOk P w H h) : ∀ {ks : List (List (List Int))} {as : List Addr} {us : List Value}, Paired (KeyAt H b) ks as → ∀ x ∈ ent3 ks as us, (kd P w b).is h x.1 x.2.1
  | _, _, [], p, x, m => by cases p <;> simp [ent3] at m
  | [], [], _ :: _, .nil, x, m => by simp [ent3] at m
  | k :: ks, a :: as, u :: us, .cons p q, x, m => by
    rw [ent3] at m
    rcases List.mem_cons.mp m with e | m
    · subst e; exact p.is ok
    · exact keys_is ok q x m
theorem DcAt.raw {H : Hp} {h : Heap} {a : Addr} {ep : Nat} {ks : List (List (List Int))} {as : List Addr} {vs : List V} (d : DcAt H b a ep ks as vs) (ok : HOk P w H h) :
    ks.length ≤ sizeLine ∧ as.length = ks.length ∧ vs.length = ks.length ∧ (a == sysModules) = false ∧ ∃ us, Vals vs us ∧ h.DictOfH (kd P w b) a (ent3 ks as us) ∧ ks.Nodup := by
  obtain ⟨⟨h1, h2, h3, h4, us, h5, o, es, h6, h7, h8, h9, h10⟩, _⟩ := (show ObjOk P w H h a (DicO b a ep ks as vs) from ok a _ d.h)
  have l5 := h5.length
  exact ⟨h1, h2, h3, h4, us, h5, ⟨o, es, ep, h6, h7, h8, by rw [h9, ent_map (P := P) (w := w)], keys_is ok d.k, by rw [ent_keys h2 (by omega)]; exact h10⟩, h10⟩
theorem vals_lk : ∀ {ks : List (List (List Int))} {vs : List V} {us : List Value} (k : List (List Int)), Vals vs us → RelO (lkA ks vs k) (lkA ks us k)
  | [], _, _, _, _ => by simp [lkA]; trivial
  | _ :: _, _, _, _, .nil => by simp [lkA]; trivial
  | k' :: ks, _, _, k, .cons r t => by
    rw [lkA, lkA]
    by_cases e : k' = k
    · rw [if_pos e, if_pos e]; exact r
    · rw [if_neg e, if_neg e]; exact vals_lk k t
theorem vals_rp {v : V} {u : Value} (r : RelV v u) : ∀ {ks : List (List (List Int))} {vs : List V} {us : List Value} (k : List (List Int)), Vals vs us → Vals (rpA ks vs k v) (rpA ks us k u)
  | [], _, _, _, t => by simp only [rpA]; exact t
  | _ :: _, _, _, _, .nil => by simp only [rpA]; exact .nil
  | k' :: ks, _, _, k, .cons q t => by
    rw [rpA, rpA]
    refine .cons ?_ (vals_rp r k t)
    by_cases e : k' = k
    · rw [if_pos e, if_pos e]; exact r
    · rw [if_neg e, if_neg e]; exact q
theorem vals_pt {v : V} {u : Value} (r : RelV v u) {ks : List (List (List Int))} {vs : List V} {us : List Value} (k : List (List Int)) (t : Vals vs us) : Vals (ptA ks vs k v) (ptA ks us k u) := by
  unfold ptA
  by_cases m : k ∈ ks
  · rw [if_pos m, if_pos m]; exact vals_rp r k t
  · rw [if_neg m, if_neg m]; exact Paired.snoc t r
end
end L3

/-! Dicts over the hand layer: rules. -/
namespace L3
open PySem L2
theorem relo_getD {o : Option V} {u : Option Value} {d : V} {d' : Value} (r : RelO o u) (rd : RelV d d') : RelV (o.getD d) (u.getD d') := by
  cases o <;> cases u <;> first | exact rd | exact r | exact r.elim
def IsDc (H : Hp) (a : Addr) : Prop := ∃ b ep ks as vs, DcAt H b a ep ks as vs
def tCNew (b : Bool) : TE := fun _ H Q => ∀ p, H p = none → Q (.ref p) (upd H p (DicO b p 0 [] [] []))
def tCGet2 (b : Bool) (td ty tx : TE) : TE := fun σ H Q => td σ H fun x H1 => ∃ a, x = .ref a ∧ IsDc H1 a ∧ ty σ H1 fun y H2 => tx σ H2 fun z H3 => ∃ c ep ks as vs k, y = .ref c ∧ DcAt H3 b a ep ks as vs ∧ KeyAt H3 b k c ∧ Q ((lkA ks vs k).getD z) H3
def sCPut (b : Bool) (td ty tv : TE) : TS := fun D σ H => tv σ H fun v H1 => td σ H1 fun x H2 => ty σ H2 fun y H3 => ∃ a c ep ks as vs k, x = .ref a ∧ y = .ref c ∧ DcAt H3 b a ep ks as vs ∧ KeyAt H3 b k c ∧ ks.length < sizeLine ∧
  ∀ ep', D.nx σ (upd H3 a (DicO b a ep' (ptK ks k) (if k ∈ ks then as else as ++ [c]) (ptA ks vs k v)))
section
variable {X : Cx} {b : Bool} {pos pos' apos cpos : Pos} {o e f i value : Expr} {td ty tx tv : TE}
theorem DcAt.typ {H : Hp} {s : Shared} {pins : List (Addr × Obj)} {σ : St} {a : Addr} {ep : Nat} {ks : List (List (List Int))} {as : List Addr} {vs : List V} (I : Inv X pins σ H s) (d : DcAt H b a ep ks as vs) :
    s.TypeIs (.ref a) "dict" ∧ ∀ c, Value.ref a = .ref c → ∃ ob, s.heap.get? c = some ob ∧ ob.dict = none := by
  obtain ⟨_, _, _, _, us, _, dd, _⟩ := d.raw I.hok
  refine ⟨dd.typeIs, fun c q => ?_⟩
  cases q
  obtain ⟨ob, _, _, h1, h2, _⟩ := dd
  exact ⟨ob, h1, h2.2.1⟩
theorem pe_cget2 (hu : X.A.units + 4 < cLine) (ho : PE X o td) (he : PE X e ty) (hf : PE X f tx)
    (hbase : attributeBase o "get" X.env (eval o X.env) = eval o X.env := by rfl)
    (hfew : ((backTo cpos (starEach [e, f] X.env)).all (fun x => !x.1) && (backToKw cpos (keywordEach [] X.env)).all (fun x => x.1.isSome)
      && decide (([e, f] : List Expr).length + ([] : List Keyword).length + (if ([] : List Keyword).isEmpty then 0 else 1) < 30)) = true := by rfl)
    (hline : (apos.endLine == cpos.line) = true := by rfl) (htr : backTo cpos (starEach [e, f] X.env) = [(false, eval e X.env), (false, eval f X.env)] := by rfl) :
    PE X (.Call (.Attribute o "get" apos) [e, f] [] cpos) (tCGet2 b td ty tx) := by
  intro pins s σ H Q I h
  refine wpAny_Call_method hbase hfew hline PySem.F.plainAttrs_dict PySem.F.slot_dict_get PySem.F.type_dict_get (thn (ho pins s σ H _ I h) fun u s1 ⟨x, H1, I1, rx, a, ex, dI, q1⟩ => ?_)
  obtain ⟨b1, ep1, ks1, as1, vs1, d⟩ := dI
  subst ex
  obtain rfl : u = Value.ref a := rx
  obtain ⟨t1, t2⟩ := d.typ I1
  refine ⟨t1, t2, ?_⟩
  rw [htr]
  refine Calls.callWith_builtin rfl (Calls.evalArgs_plain (Calls.spliced_cons (thn (he pins s1 σ H1 _ I1 q1) fun iv s2 ⟨y, H2, I2, ry, q2⟩ =>
    Calls.spliced_cons (thn (hf pins s2 σ H2 _ I2 q2) fun fv s3 ⟨z, H3, I3, rz, c, ep, ks, as, vs, k, ey, dc, ka, q3⟩ => Calls.spliced_nil ?_))))
  subst ey
  obtain rfl : iv = Value.ref c := ry
  obtain ⟨h1, h2, h3, h4, us, h5, dd, h6⟩ := dc.raw I3.hok
  have l5 := h5.length
  refine call_meetsIn PySem.F.slot_dict_get dd.typeIs PySem.F.entry_dict_get (PySem.F.args_dict_get_3 _ _ _) (meetsH_dict_get_default (kd X.prog X.w b) a c h4 fv) ⟨kd_room hu, k, ent3 ks as us, ka.is I3.hok, dd, ?_⟩
  rw [ent_get k h2 (by omega)]
  exact ⟨_, H3, I3.tok _, relo_getD (vals_lk k h5) rz, q3⟩
theorem pt_nodup {ks : List (List (List Int))} {k : List (List Int)} (h : ks.Nodup) : (ptK ks k).Nodup := by
  unfold ptK
  by_cases m : k ∈ ks
  · rw [if_pos m]; exact h
  · rw [if_neg m]
    refine List.nodup_append.mpr ⟨h, by simp, fun x hx y hy => ?_⟩
    rw [List.mem_singleton.mp hy]
    rintro rfl
    exact m hx
theorem ps_cput (hu : X.A.units + 4 < cLine) (ho : PE X o td) (hi : PE X i ty) (hv : PE X value tv) (hs : swapsWith value (some (.Subscript o i pos')) pos.line X.env = pure false := by rfl) :
    PS X (.Assign [.Subscript o i pos'] value pos) (sCPut b td ty tv) := by
  intro pins s σ H D I h
  refine wpAny_Assign_Subscript (thn (hv pins s σ H _ I h) fun r s1 ⟨v, H1, I1, rv, q1⟩ => thn (ho pins s1 σ H1 _ I1 q1) fun u s2 ⟨x, H2, I2, rx, q2⟩ => thn (hi pins s2 σ H2 _ I2 q2) fun iv s3 ⟨y, H3, I3, ry, a, c, ep0, ks, as, vs, k, ex, ey, dc, ka, hl, q3⟩ => ?_) hs
  subst ex ey
  obtain rfl : u = Value.ref a := rx
  obtain rfl : iv = Value.ref c := ry
  obtain ⟨h1, h2, h3, h4, us, h5, dd, h6⟩ := dc.raw I3.hok
  have l5 := h5.length
  have le : (ent3 ks as us).length = ks.length := by
    have := congrArg List.length (ent_keys (as := as) (us := us) h2 (by omega))
    rwa [List.length_map] at this
  refine wpAny_setItem_heap (kd_room hu) (ka.is I3.hok) dd (fun h' dn sb => ?_) (by omega)
  rw [ent_stored k c r h2 (by omega)] at dn
  have lk : (ptK ks k).length ≤ sizeLine := by
    unfold ptK
    split
    · exact h1
    · rw [List.length_append, List.length_singleton]; omega
  have la : (if k ∈ ks then as else as ++ [c]).length = (ptK ks k).length := by
    unfold ptK
    split
    · exact h2
    · rw [List.length_append, List.length_append, h2]; rfl
  have lv : (ptA ks vs k v).length = (ptK ks k).length := by
    unfold ptK ptA
    split
    · rw [rp_len]; exact h3
    · rw [List.length_append, List.length_append, h3]; rfl
  obtain ⟨ob, es, ep, o1, o2, o3, o4, o5, o6⟩ := dn
  have hI : Inv X pins σ (upd H3 a (DicO b a ep (ptK ks k) (if k ∈ ks then as else as ++ [c]) (ptA ks vs k v))) { s3 with heap := h', toks := s3.toks + (kd X.prog X.w b).draws k } := by
    refine I3.write (x := a) (e := a) (by rw [dc.h]; trivial) (.inl rfl) (fun c' q hb z => (sb.2 c' hb).trans z) ⟨ob, o1⟩ ?_
    refine ⟨⟨lk, la, lv, h4, _, vals_pt rv k h5, ob, es, o1, o2, o3, ?_, pt_nodup h6⟩, ⟨ob, o1⟩, ?_⟩
    · rw [o4, ent_map (P := X.prog) (w := X.w)]
    · rintro g1 g2 ⟨z1, z2, z3, z4, us', z5, ob', es', z6, z7⟩ hk
      exact ⟨z1, z2, z3, z4, us', z5, ob', es', hk _ z6, z7⟩
  exact ⟨σ, _, hI, q3 ep⟩
theorem pe_cnew : PE X (.Dict [] [] pos) (tCNew b) := fun pins s σ H Q I h => by
  have big : sysModules < s.heap.objs.size := Nat.lt_trans (by decide) ((I.mod.glob.keeps I.bk).lt : mainGlobals < s.heap.objs.size)
  refine wpAny_Dict_empty ⟨.ref s.heap.objs.size, _, I.laid (a := s.heap.objs.size) (o := DicO b s.heap.objs.size 0 [] [] []) (t' := s.toks) (fun _ _ q => Heap.get?_push_of_some _ q) (Nat.le_refl _) ?_, rfl, h _ (I.hok.fresh (Nat.le_refl _))⟩
  refine ⟨⟨Nat.zero_le _, rfl, rfl, beq_eq_false_iff_ne.mpr (Ne.symm (Nat.ne_of_lt big)), [], .nil, _, #[], Heap.get?_push_size _ rfl, ⟨rfl, rfl, rfl⟩, rfl, rfl, List.nodup_nil⟩, ⟨_, Heap.get?_push_size _ rfl⟩, ?_⟩
  rintro g1 g2 ⟨z1, z2, z3, z4, us', z5, ob', es', z6, z7⟩ hk
  exact ⟨z1, z2, z3, z4, us', z5, ob', es', hk _ z6, z7⟩
end
end L3

/-! A dict walked, whatever its keys. -/
namespace L3
open PySem L2
def RawD (h : Heap) (d : Addr) (es : Array DictEntry) (ep : Nat) : Prop := ∃ o, h.get? d = some o ∧ o.ExactDict ∧ o.data = .dict es ep
section
variable {prog : Program} {w : World} {A : Around} {E : Value → Shared → Prop} {s : Shared} {d it : Addr} {i ep : Nat} {es : Array DictEntry}
end
end L3

/-! Dicts over trees: made, read, written, walked. -/
namespace L3
open PySem L2
theorem ent_len {b : Bool} : ∀ {ks : List (List (List Int))} {as : List Addr} {us : List Value}, as.length = ks.length → us.length = ks.length → (entK b ks as us).length = ks.length
  | [], _, _, _, _ => by simp [entK]
  | k :: ks, [], _, h, _ => by simp at h
  | k :: ks, _ :: _, [], _, h => by simp at h
  | k :: ks, a :: as, u :: us, h1, h2 => by rw [entK, List.length_cons, List.length_cons, ent_len (by simpa using h1) (by simpa using h2)]
theorem ent_nth {b : Bool} : ∀ {ks : List (List (List Int))} {as : List Addr} {us : List Value} {i : Nat}, as.length = ks.length → us.length = ks.length → i < ks.length → ∃ k c u, as[i]? = some c ∧ us[i]? = some u ∧ (entK b ks as us)[i]? = some ⟨hashK b k, .ref c, u⟩
  | [], _, _, i, _, _, h => by simp at h
  | k :: ks, [], _, _, h, _, _ => by simp at h
  | k :: ks, _ :: _, [], _, _, h, _ => by simp at h
  | k :: ks, a :: as, u :: us, 0, _, _, _ => ⟨k, a, u, rfl, rfl, rfl⟩
  | k :: ks, a :: as, u :: us, i + 1, h1, h2, h3 => by
    obtain ⟨k', c, u', z1, z2, z3⟩ := ent_nth (b := b) (ks := ks) (as := as) (us := us) (i := i) (by simpa using h1) (by simpa using h2) (by simpa using h3)
    exact ⟨k', c, u', by simpa using z1, by simpa using z2, by simpa [entK] using z3⟩
section
variable {P : Program} {w : World} {K : PySem.W.Frag} {tg : Expr} {b : Bool} {a : Addr} {ep : Nat} {ks : List (List (List Int))} {as : List Addr} {vs : List V}
theorem raw_of {H : Hp} {h : Heap} (ok : HOk P w H h) (e : H a = some (DicO b a ep ks as vs)) : ∃ us es, RawD h a es ep ∧ es.toList = entK b ks as us ∧ as.length = ks.length ∧ us.length = ks.length ∧ es.size = ks.length ∧ Vals vs us ∧ (a == sysModules) = false := by
  obtain ⟨⟨h1, h2, h3, h4, us, h5, o, es, h6, h7, h8, h9, h10⟩, _⟩ := (show ObjOk P w H h a (DicO b a ep ks as vs) from ok a _ e)
  have l5 := h5.length
  exact ⟨us, es, ⟨o, h6, h7, h8⟩, h9, h2, by omega, by rw [← Array.length_toList, h9, ent_len h2 (by omega)], h5, h4⟩
end
section
variable {X : Cx} {tg : Expr}
end
/-! ### over trees -/
section
variable {K : PySem.W.Frag} {B H : Hp}
theorem reps_intV : ∀ {vs : List V} {l : List Int}, Reps K B vs (l.map D.int) → vs = l.map V.int
  | _, [], r => by cases r; rfl
  | _, i :: l, r => by
    rw [List.map_cons] at r
    cases r with
    | cons h t => rw [h.intV, reps_intV t]; rfl
theorem reps_tups (s : Same B H) : ∀ {vs : List V} {k : List (List Int)}, Reps K B vs (k.map fun ks => .tup (ks.map D.int)) → ∃ as : List Addr, vs = as.map V.ref ∧ Paired (fun (l : List Int) c => H c = some (.tup (l.map V.int))) k as
  | _, [], r => by cases r; exact ⟨[], rfl, .nil⟩
  | _, l :: k, r => by
    rw [List.map_cons] at r
    cases r with
    | cons h t =>
      obtain ⟨c, us, rfl, hc, rs⟩ := h.tupV
      rw [reps_intV rs] at hc
      obtain ⟨as, rfl, p⟩ := reps_tups s t
      exact ⟨c :: as, rfl, .cons (s _ _ hc) p⟩
theorem key_ref {b : Bool} {k : List (List Int)} {v : V} (r : Rep K B v (keyD b k)) : ∃ c, v = .ref c := by
  unfold keyD at r
  split at r
  · obtain ⟨c, _, rfl, _⟩ := r.tupV; exact ⟨c, rfl⟩
  · obtain ⟨c, _, rfl, _⟩ := r.tupV; exact ⟨c, rfl⟩
theorem keyAt_of {b : Bool} {k : List (List Int)} {c : Addr} (s : Same B H) (hb : b = false → ∃ l, k = [l]) (r : Rep K B (.ref c) (keyD b k)) : KeyAt H b k c := by
  cases b with
  | false =>
    obtain ⟨l, rfl⟩ := hb rfl
    obtain ⟨c', us, e, hc, rs⟩ := (show Rep K B (.ref c) (.tup (l.map D.int)) from r).tupV
    cases e
    rw [reps_intV rs] at hc
    exact ⟨l, rfl, s _ _ hc⟩
  | true =>
    obtain ⟨c', us, e, hc, rs⟩ := (show Rep K B (.ref c) (.tup (k.map fun ks => .tup (ks.map D.int))) from r).tupV
    cases e
    obtain ⟨as, rfl, p⟩ := reps_tups s rs
    exact ⟨as, s _ _ hc, p⟩
theorem keys_of {b : Bool} (s : Same B H) : ∀ {ks : List (List (List Int))} {as : List Addr}, (b = false → ∀ k ∈ ks, ∃ l, k = [l]) → Reps K B (as.map V.ref) (ks.map (keyD b)) → Paired (KeyAt H b) ks as
  | [], [], _, _ => .nil
  | [], _ :: _, _, r => by cases r
  | _ :: _, [], _, r => by cases r
  | k :: ks, a :: as, hb, r => by
    rw [List.map_cons, List.map_cons] at r
    cases r with
    | cons h t => exact .cons (keyAt_of s (fun z => hb z k List.mem_cons_self) h) (keys_of s (fun z k' m => hb z k' (List.mem_cons_of_mem _ m)) t)
theorem reps_lk {b : Bool} {z : V} {dz : D} (rz : Rep K B z dz) (k : List (List Int)) : ∀ {ks : List (List (List Int))} {vs : List V} {ds : List D}, Reps K B vs ds → Rep K B ((lkA ks vs k).getD z) ((lkA ks ds k).getD dz)
  | [], _, _, _ => by simp only [lkA, Option.getD_none]; exact rz
  | _ :: _, _, _, .nil => by simp only [lkA, Option.getD_none]; exact rz
  | k' :: ks, _, _, .cons h t => by
    rw [lkA, lkA]
    by_cases e : k' = k
    · rw [if_pos e, if_pos e]; exact h
    · rw [if_neg e, if_neg e]; exact reps_lk (b := b) rz k t
theorem reps_rp {v : V} {d : D} (r : Rep K B v d) (k : List (List Int)) : ∀ {ks : List (List (List Int))} {vs : List V} {ds : List D}, Reps K B vs ds → Reps K B (rpA ks vs k v) (rpA ks ds k d)
  | [], _, _, t => by simp only [rpA]; exact t
  | _ :: _, _, _, .nil => by simp only [rpA]; exact .nil
  | k' :: ks, _, _, .cons h t => by
    rw [rpA, rpA]
    refine .cons ?_ (reps_rp r k t)
    by_cases e : k' = k
    · rw [if_pos e, if_pos e]; exact r
    · rw [if_neg e, if_neg e]; exact h
theorem reps_pt {v : V} {d : D} (r : Rep K B v d) (k : List (List Int)) {ks : List (List (List Int))} {vs : List V} {ds : List D} (t : Reps K B vs ds) : Reps K B (ptA ks vs k v) (ptA ks ds k d) := by
  unfold ptA
  by_cases m : k ∈ ks
  · rw [if_pos m, if_pos m]; exact reps_rp r k t
  · rw [if_neg m, if_neg m]; exact t.append (.cons r .nil)
theorem reps_ptK {b : Bool} {c : Addr} {k : List (List Int)} {ks : List (List (List Int))} {as : List Addr} (r : Rep K B (.ref c) (keyD b k)) (t : Reps K B (as.map V.ref) (ks.map (keyD b))) :
    Reps K B ((if k ∈ ks then as else as ++ [c]).map V.ref) ((ptK ks k).map (keyD b)) := by
  unfold ptK
  by_cases m : k ∈ ks
  · rw [if_pos m, if_pos m]; exact t
  · rw [if_neg m, if_neg m, List.map_append, List.map_append]; exact t.append (.cons r .nil)
end
def KeyOk (b : Bool) (k : List (List Int)) : Prop := b = false → ∃ l, k = [l]
theorem ptK_ok {b : Bool} {k : List (List Int)} {ks : List (List (List Int))} (h : b = false → ∀ k ∈ ks, ∃ l, k = [l]) (hk : KeyOk b k) : b = false → ∀ k' ∈ ptK ks k, ∃ l, k' = [l] := fun z k' m => by
  unfold ptK at m
  split at m
  · exact h z k' m
  · rcases List.mem_append.mp m with m | m
    · exact h z k' m
    · rw [List.mem_singleton.mp m]; exact hk z
def uDnew (b : Bool) (i : Nat) : US := fun U ρ => U.nx (ρ.set i (.own (.d b none [] [])))
def uDget2 (b : Bool) (n : Nat) (ue uf : UE) : UE := fun ρ k => ∃ t ks ds, ρ[n]? = some (.own (.d b t ks ds)) ∧ ue ρ fun y => uf ρ fun z => ∃ kk, y = keyD b kk ∧ KeyOk b kk ∧ k ((lkA ks ds kk).getD z)
def uDput (b : Bool) (n : Nat) (ue uv : UE) : US := fun U ρ => uv ρ fun d => ∃ t ks ds, ρ[n]? = some (.own (.d b t ks ds)) ∧ ue ρ fun y => ∃ kk, y = keyD b kk ∧ KeyOk b kk ∧ ks.length < sizeLine ∧ U.nx (ρ.set n (.own (.d b t (ptK ks kk) (ptA ks ds kk d))))
def uFzD (i : Nat) (s : US) : US := fun U ρ => ∃ b t ks ds, ρ[i]? = some (.own (.d b t ks ds)) ∧ s U (ρ.set i (.val (.dct b ks ds)))
section
variable {X : Cx} {b : Bool} {n : Nat} {x : Str} {px pos pos' apos cpos pd : Pos} {o e f i value : Expr} {uo ue uf uv : UE} {tg : Expr}
theorem s_dnew {i : Nat} (hN : X.N.Nodup) (hi : X.N[i]? = some x) (hx : Loc X.env.scope x) (hs : swapsWith (.Dict [] [] pd) (some (.Name x pos')) pos.line X.env = pure false := by rfl) (hf : X.fn x = true ∨ X.env.scope.names.lookup x = some .local := by first | exact .inl rfl | exact .inr rfl | assumption) :
    PS3 X (.Assign [.Name x pos'] (.Dict [] [] pd) pos) (uDnew b i) := by
  refine ⟨_, ps_set hN hi hx (pe_cnew (b := b)) hs hf, fun U ρ h R W B H σ D e s => ?_⟩
  intro p hp
  obtain ⟨f1, f2, f3⟩ := e.toWd.fresh hp
  exact s.nx _ _ B _ h ((e.allocH hp _).setC i f1 f3 ⟨0, [], [], (fun _ z => nomatch z), upd_same, .nil, fun _ _ z => by simp at z, .nil⟩ fun j _ m => e.notNew hp m rfl) (Grow.refl _ _)
theorem e_dget2 (n : Nat) (hu : X.A.units + 4 < cLine) (he : PE3 X e ue) (hf : PE3 X f uf) (hN : X.N[n]? = some x := by rfl) (hv : Vis X.env.scope x := by first | exact Or.inl rfl | exact Or.inr (Or.inl rfl) | exact Or.inr (Or.inr rfl)) (hd : (x == ("__debug__" : Str)) = false := by decide)
    (hcd : (x == ("__classdict__" : Str)) = false := by decide)
    (hbase : attributeBase (.Name x px) "get" X.env (eval (.Name x px) X.env) = eval (.Name x px) X.env := by rfl)
    (hfew : ((backTo cpos (starEach [e, f] X.env)).all (fun x => !x.1) && (backToKw cpos (keywordEach [] X.env)).all (fun x => x.1.isSome)
      && decide (([e, f] : List Expr).length + ([] : List Keyword).length + (if ([] : List Keyword).isEmpty then 0 else 1) < 30)) = true := by rfl)
    (hline : (apos.endLine == cpos.line) = true := by rfl) (htr : backTo cpos (starEach [e, f] X.env) = [(false, eval e X.env), (false, eval f X.env)] := by rfl) :
    PE3 X (.Call (.Attribute (.Name x px) "get" apos) [e, f] [] cpos) (uDget2 b n ue uf) := by
  obtain ⟨_, h1, r1⟩ := he
  obtain ⟨_, h2, r2⟩ := hf
  refine ⟨_, pe_cget2 (b := b) hu (pe_var hN hv hd hcd) h1 h2 hbase hfew hline htr, fun ρ k z R W B H σ Q ev q => ?_⟩
  obtain ⟨t, ks, ds, ho, z⟩ := z
  obtain ⟨a, e1, e2, e3, ep, as, vs, _, e4, e5, e6, e7⟩ := ev.ownC ho
  refine ⟨_, e1, a, rfl, ⟨b, ep, ks, as, vs, e4, keys_of ev.bh e6 e5⟩, ?_⟩
  refine r1 ρ _ z R W B H σ _ ev fun y v B1 H1 z1 f1 g1 s1 => ?_
  refine r2 ρ _ z1 R W B1 H1 σ _ f1 fun y2 v2 B2 H2 z2 f2 g2 s2 => ?_
  obtain ⟨kk, rfl, hk, hq⟩ := z2
  obtain ⟨c, rfl⟩ := key_ref s1
  obtain ⟨a', c1, c2, c3, ep', as', vs', _, c4, c5, c6, c7⟩ := f2.ownC ho
  rw [e1] at c1; cases c1
  exact ⟨c, ep', ks, as', vs', kk, rfl, ⟨c4, keys_of f2.bh c6 c5⟩, keyAt_of f2.bh hk (s1.mono g2.s), q _ _ B2 H2 hq f2 (g1.trans g2) (reps_lk (b := b) s2 kk c7)⟩
theorem s_dput (n : Nat) (hu : X.A.units + 4 < cLine) (he : PE3 X e ue) (hv : PE3 X value uv) (hN : X.N[n]? = some x := by rfl) (hvi : Vis X.env.scope x := by first | exact Or.inl rfl | exact Or.inr (Or.inl rfl) | exact Or.inr (Or.inr rfl)) (hd : (x == ("__debug__" : Str)) = false := by decide)
    (hcd : (x == ("__classdict__" : Str)) = false := by decide) (hs : swapsWith value (some (.Subscript (.Name x px) e pos')) pos.line X.env = pure false := by rfl) :
    PS3 X (.Assign [.Subscript (.Name x px) e pos'] value pos) (uDput b n ue uv) := by
  obtain ⟨_, h1, r1⟩ := hv
  obtain ⟨_, h2, r2⟩ := he
  refine ⟨_, ps_cput (b := b) hu (pe_var hN hvi hd hcd) h2 h1 hs, fun U ρ z R W B H σ D ev sm => ?_⟩
  refine r1 ρ _ z R W B H σ _ ev fun d v B1 H1 z1 f1 g1 s1 => ?_
  obtain ⟨t, ks, ds, ho, z1⟩ := z1
  obtain ⟨a, e1, e2, e3, _⟩ := f1.ownC ho
  refine ⟨_, e1, ?_⟩
  refine r2 ρ _ z1 R W B1 H1 σ _ f1 fun y v2 B2 H2 z2 f2 g2 s2 => ?_
  obtain ⟨kk, rfl, hk, hl, hq⟩ := z2
  obtain ⟨c, rfl⟩ := key_ref s2
  obtain ⟨a', c1, c2, c3, ep, as, vs, c0, c4, c5, c6, c7⟩ := f2.ownC ho
  rw [e1] at c1; cases c1
  refine ⟨a, c, ep, ks, as, vs, kk, rfl, rfl, ⟨c4, keys_of f2.bh c6 c5⟩, keyAt_of f2.bh hk s2, hl, fun ep' => ?_⟩
  exact sm.nx _ _ B2 _ hq (f2.writeC e1 ho ⟨ep', _, _, c0, upd_same, reps_ptK s2 c5, ptK_ok c6 hk, reps_pt (s1.mono g2.s) kk c7⟩) (g1.trans g2)
theorem s_fzD {st : List Stmt} {s : US} (i : Nat) (h : PSs3 X st s) : PSs3 X st (uFzD i s) := by
  obtain ⟨_, h1, r1⟩ := h
  refine ⟨_, h1, fun U ρ h R W B H σ D e sm => ?_⟩
  obtain ⟨b, t, ks, ds, ho, z⟩ := h
  obtain ⟨B', e', g⟩ := e.fzD ho
  exact r1 U _ z R W B' H σ D e' (sm.grow g)
end
end L3

/-! A def that writes into a dict that it is handed first. -/
namespace L3
open PySem L2
theorem hu4 {A : Around} {k : Nat} (hr : Room k A) : A.units + 4 < cLine := Nat.lt_of_le_of_lt (Nat.add_le_add_left (by decide : 4 ≤ 64) _) hr.units
section
variable {K : PySem.W.Frag}
end
section
variable {X : Cx} {m n : Nat} {x : Str} {px p pos pos2 : Pos} {e : Expr} {es : List Expr} {F : FD} {w : UL}
end
end L3

/-! Drawn corners in whole numbers. -/
namespace Cut
open PySem L2 L3
end Cut

/-! Areas of cloths, in Rat. -/
namespace Cut
open PySem L2 L3
open PySem.Builtin.Int (intBits)
end Cut

/-! Areas slid, turned, tilted. -/
namespace Cut
open PySem L2 L3
end Cut

/-! Sizes of a cloth's area. -/
namespace Cut
open PySem L2 L3
open PySem.Builtin.Int (intBits)
end Cut
namespace Cut
end Cut

/-! What area asks of a cloth handed in. -/
namespace Cut
open PySem L2 L3
open PySem.Builtin.Int (intBits)
end Cut

/-! Sides above a point and sides at its right: one parity. -/
namespace Cut
end Cut

/-! Round a ring: above and at the right, one parity. -/
namespace Cut
end Cut

/-! Handed corners over one bottom: hands and steps by whole numbers. -/
namespace Cut
open PySem L2 L3
end Cut

/-! Corners as k15 hands them. -/
namespace Cut
open PySem L2 L3
open PySem.Builtin.Int (intBits)
end Cut

/-! The program's sides and the law's: the same, begun elsewhere. -/
namespace Cut
open PySem
end Cut

/-! k15: spots. -/
namespace Cut
open PySem L2 L3
open PySem.Builtin.Int (intBits)
end Cut

/-! Lines in lowest terms; sides summed by line and point. -/
namespace Cut
open PySem L2 L3
end Cut

/-! Cutting and balances of sides. -/
namespace Cut
open PySem L2 L3
section
variable (φ : List (List Int) → Int) (l : P3)
end
section
variable {l o : P3} {ps : List P3}
end
section
variable {l : P3} {φ : List (List Int) → Int}
end
end Cut

/-! Moves and balances of sides. -/
namespace Cut
open PySem L2 L3
end Cut

/-! The tally of sides by line and point. -/
namespace Cut
open PySem L2 L3
open PySem.Builtin.Int (intBits)
theorem lk_put {α : Type} (k : List (List Int)) (x : α) : ∀ {ks : List (List (List Int))} {ds : List α} (key : List (List Int)), ds.length = ks.length → lkA (ptK ks k) (ptA ks ds k x) key = if key = k then some x else lkA ks ds key := by
  have rp : ∀ {ks : List (List (List Int))} {ds : List α} (key : List (List Int)), ds.length = ks.length → lkA ks (rpA ks ds k x) key = if key = k ∧ k ∈ ks then some x else lkA ks ds key := by
    intro ks
    induction ks with
    | nil => intro ds key h; simp [lkA]
    | cons k' ks ih =>
      intro ds key h
      cases ds with
      | nil => simp at h
      | cons d ds =>
        have ih := ih (ds := ds) key (by simpa using h)
        rw [rpA, lkA, lkA]
        by_cases e : k' = key
        · rw [if_pos e, if_pos e]
          by_cases e2 : k' = k
          · rw [if_pos e2, if_pos ⟨by rw [← e, e2], by rw [e2]; simp⟩]
          · rw [if_neg e2, if_neg (fun z => e2 (e.trans z.1))]
        · rw [if_neg e, if_neg e, ih]
          by_cases z : key = k ∧ k ∈ ks
          · rw [if_pos z, if_pos ⟨z.1, List.mem_cons_of_mem _ z.2⟩]
          · rw [if_neg z, if_neg (fun y => z ⟨y.1, by
              rcases List.mem_cons.mp y.2 with q | q
              · exact absurd (q.symm.trans y.1.symm) e
              · exact q⟩)]
  have ap : ∀ {ks : List (List (List Int))} {ds : List α} (key : List (List Int)), ds.length = ks.length → lkA (ks ++ [k]) (ds ++ [x]) key = (lkA ks ds key).or (if k = key then some x else none) := by
    intro ks
    induction ks with
    | nil =>
      intro ds key h
      cases ds with
      | nil => simp [lkA]
      | cons d ds => simp at h
    | cons k' ks ih =>
      intro ds key h
      cases ds with
      | nil => simp at h
      | cons d ds =>
        have ih := ih (ds := ds) key (by simpa using h)
        rw [List.cons_append, List.cons_append, lkA, lkA]
        by_cases e : k' = key
        · rw [if_pos e, if_pos e]; rfl
        · rw [if_neg e, if_neg e, ih]
  intro ks ds key h
  unfold ptK ptA
  by_cases m : k ∈ ks
  · rw [if_pos m, if_pos m, rp key h]
    by_cases e : key = k
    · rw [if_pos ⟨e, m⟩, if_pos e]
    · rw [if_neg (fun z => e z.1), if_neg e]
  · rw [if_neg m, if_neg m, ap key h]
    by_cases e : key = k
    · subst e
      rw [(lk_none h).mpr m, if_pos rfl]; rfl
    · rw [if_neg e, if_neg (fun z => e z.symm)]
      cases lkA ks ds key <;> rfl
theorem pt_len {α : Type} {k : List (List Int)} {x : α} {ks : List (List (List Int))} {ds : List α} (h : ds.length = ks.length) : (ptA ks ds k x).length = (ptK ks k).length ∧ (ptK ks k).length ≤ ks.length + 1 := by
  unfold ptK ptA
  by_cases m : k ∈ ks
  · rw [if_pos m, if_pos m, rp_len]; exact ⟨h, by omega⟩
  · rw [if_neg m, if_neg m, List.length_append, List.length_append, h]; exact ⟨rfl, Nat.le_refl _⟩
theorem lk_map {α β : Type} (f : α → β) : ∀ (ks : List (List (List Int))) (ds : List α) (key : List (List Int)), lkA ks (ds.map f) key = (lkA ks ds key).map f
  | [], _, _ => by simp [lkA]
  | _ :: _, [], _ => by simp [lkA]
  | k' :: ks, d :: ds, key => by
    rw [List.map_cons, lkA, lkA]
    by_cases e : k' = key
    · rw [if_pos e, if_pos e]; rfl
    · rw [if_neg e, if_neg e, lk_map f ks ds key]
theorem pt_map {α β : Type} (f : α → β) (k : List (List Int)) (x : α) (ks : List (List (List Int))) (ds : List α) : (ptA ks ds k x).map f = ptA ks (ds.map f) k (f x) := by
  have rp : ∀ (ks : List (List (List Int))) (ds : List α), (rpA ks ds k x).map f = rpA ks (ds.map f) k (f x) := by
    intro ks
    induction ks with
    | nil => intro ds; simp [rpA]
    | cons k' ks ih =>
      intro ds
      cases ds with
      | nil => simp [rpA]
      | cons d ds =>
        rw [rpA, List.map_cons, ih, List.map_cons, rpA]
        by_cases e : k' = k
        · rw [if_pos e, if_pos e]
        · rw [if_neg e, if_neg e]
  unfold ptA
  by_cases m : k ∈ ks
  · rw [if_pos m, if_pos m, rp]
  · rw [if_neg m, if_neg m, List.map_append]; rfl
end Cut

/-! Parts of corner pieces. -/
namespace Cut
open PySem L2 L3
open PySem.Builtin.Int (intBits)
end Cut

/-! Sheets cut upright and level. -/
namespace Cut
open PySem L2 L3
open PySem.Builtin.Int (intBits)
section
variable {s w pt : Int × Int}
end
end Cut

/-! What a corner piece split comes to, by its sides. -/
namespace Cut
open PySem L2 L3
open PySem.Builtin.Int (intBits)
section
variable {l o : P3} {sh : List Piece} {qs : List P3}
end
end Cut

/-! A corner piece split: where the pieces first lay. -/
namespace Cut
open PySem L2 L3
open PySem.Builtin.Int (intBits)
end Cut

/-! Points by their places; corner pieces cut upright and level. -/
namespace Cut
open PySem L2 L3
open PySem.Builtin.Int (intBits)
section
variable {X : Int × Int} {c : P3} {x y : Rat}
end
section
variable {X : Int × Int} {c p q : P3} {x y x1 y1 x2 y2 : Rat}
end
end Cut

/-! Corner pieces cut: which corners. -/
namespace Cut
open PySem L2 L3
section
variable {f : P3 → Int} {mt : P3 → P3 → P3} {a b c d : P3}
-- four corners
end
section
variable {s w pt : Int × Int}
end
end Cut

/-! A corner piece split lies as told. -/
namespace Cut
open PySem L2 L3
section
variable {g : P3} {L : List Piece} {ring : List P3}
end
end Cut

/-! sorted of a list of ints. -/
namespace L2
open PySem PySem.Spec PyProof.Rows PySem.W
variable {X : Cx}
end L2
namespace L3
open PySem L2
variable {X : Cx} {e : Expr} {u : UE} {p pos : Pos}
end L3

/-! parts.extend(cut(bag, parts.pop(i))): one is taken out of a list of one's own, and what is made of it is put behind. -/
namespace L2
open PySem PySem.Spec PyProof.Rows PySem.W
variable {X : Cx}
end L2
namespace L3
open PySem L2
section
variable {K : PySem.W.Frag} {B : Hp}
end
variable {X : Cx} {e : Expr} {u : UE} {F : FS} {pos : Pos}
end L3

/-! A ring cut from side to side. -/
namespace Cut
open PySem L2 L3
open PySem.Builtin.Int (intBits)
end Cut
namespace Cut
end Cut
namespace Cut
end Cut
namespace Cut
open PySem L2 L3
end Cut

/-! A sheet of parts of a ring. -/
namespace Cut
open PySem L2 L3
end Cut
namespace Cut
open PySem L2 L3
open PySem.Builtin.Int (intBits)
end Cut

/-! What split tells: bounds of its pieces and of the rings due. -/
namespace Cut
open PySem L2 L3
open PySem.Builtin.Int (intBits)
section
variable {s w pt : Int × Int}
end
end Cut

/-! Two lists of what split tells emptied: the first, and the box's. -/
namespace L3
open PySem L2
section
variable {K : PySem.W.Frag} {X : Cx} {i : Nat} {rest : List Stmt}
end
end L3

/-! A part of a width. -/
namespace Cut
open PySem L2 L3
open PySem.Builtin.Int (intBits)
end Cut

/-! What the tree of questions of a sort tells for a ranking: all places, in order. -/
namespace L2
open PySem PySem.W PyProof.Rows
section
variable {R : Nat → Int} {n : Nat}
/-- the tree gone down by the ranks, all that is asked below n -/
def Gd (R : Nat → Int) (n : Nat) {α : Type} : KasT α → (α → Prop) → Prop
  | .ret a, Q => Q a
  | .ask i j k, Q => i < n ∧ j < n ∧ Gd R n (k (decide (R i < R j))) Q
theorem Gd.bind {α β : Type} {f : α → KasT β} {Q : β → Prop} : ∀ {t : KasT α}, Gd R n t (fun a => Gd R n (f a) Q) → Gd R n (t.bind f) Q
  | .ret _, h => h
  | .ask _ _ _, h => ⟨h.1, h.2.1, Gd.bind h.2.2⟩
theorem Gd.mono {α : Type} {Q Q' : α → Prop} (hq : ∀ a, Q a → Q' a) : ∀ {t : KasT α}, Gd R n t Q → Gd R n t Q'
  | .ret a, h => hq a h
  | .ask _ _ _, h => ⟨h.1, h.2.1, Gd.mono hq h.2.2⟩
theorem Gd.wp {α : Type} {cmp : Nat → Nat → (Bool → Shared → Prop) → Shared → Prop} {s : Shared} {Q : α → Prop} {G : α → Shared → Prop} (hc : ∀ i j C, i < n → j < n → C (decide (R i < R j)) s → cmp i j C s) (hq : ∀ a, Q a → G a s) : ∀ {t : KasT α}, Gd R n t Q → t.kasWp cmp G s
  | .ret a, h => hq a h
  | .ask i j _, h => hc i j _ h.1 h.2.1 (Gd.wp hc hq h.2.2)
theorem gd_t {α : Type} {a b : KasT α} {Q : α → Prop} (h : Gd R n a Q) : Gd R n (if true = true then a else b) Q := by rw [if_pos rfl]; exact h
theorem gd_f {α : Type} {a b : KasT α} {Q : α → Prop} (h : Gd R n b Q) : Gd R n (if false = true then a else b) Q := by rw [if_neg (by simp)]; exact h
abbrev rk (R : Nat → Int) (p : Array Nat) (k : Nat) : Int := R (p.getD k 0)
def PP (n : Nat) (p : Array Nat) : Prop := p.Perm (List.range n).toArray
theorem PP.sz {p : Array Nat} (h : PP n p) : p.size = n := by have := h.size_eq; simpa using this
theorem PP.below {p : Array Nat} (h : PP n p) {k : Nat} (hk : k < n) : p.getD k 0 < n := by
  have hs := h.sz
  have e : p.getD k 0 = p[k]'(by omega) := by simp [Array.getD, hs, hk]
  have m : p[k]'(by omega) ∈ p := Array.getElem_mem _
  rw [e]
  have := (h.mem_iff).mp m
  simpa using this
theorem PP.rev {p : Array Nat} (h : PP n p) (i j : Nat) : PP n (kas_rev p i j) := (mirror_perm _ _ _ _).trans h
theorem PP.bub {p : Array Nat} (h : PP n p) (i j : Nat) : PP n (bubble p i j) := (bubble_perm _ _ _).trans h
theorem getD_of? (p : Array Nat) (k : Nat) : p.getD k 0 = (p[k]?).getD 0 := by simp
theorem rk_rev {p : Array Nat} {i j : Nat} (hj : j ≤ p.size) (k : Nat) : rk R (kas_rev p i j) k = if i ≤ k ∧ k < j then rk R p (i + j - 1 - k) else rk R p k := by
  unfold rk kas_rev
  rw [getD_of?, getElem?_mirror_all hj]
  split <;> rw [getD_of?]
theorem rk_bub {p : Array Nat} {src d : Nat} (hs : src < p.size) (hd : d ≤ src) (k : Nat) : rk R (bubble p src d) k = if k = src - d then rk R p src else if src - d < k ∧ k ≤ src then rk R p (k - 1) else rk R p k := by
  unfold rk
  rw [getD_of?, getD_of?, getD_of?, getD_of?, getElem?_bubble hs d hd]
  split
  · rfl
  · split <;> rfl
def Inc (R : Nat → Int) (p : Array Nat) (m : Nat) : Prop := ∀ i j, i ≤ j → j < m → rk R p i ≤ rk R p j
def Dcr (R : Nat → Int) (p : Array Nat) (m : Nat) : Prop := ∀ i j, i ≤ j → j < m → rk R p j ≤ rk R p i
theorem Inc.more {p : Array Nat} {m : Nat} (h : Inc R p m) (h1 : 1 ≤ m) (hv : rk R p (m - 1) ≤ rk R p m) : Inc R p (m + 1) := fun i j hij hj => by
  by_cases e : j < m
  · exact h i j hij e
  · have e2 : j = m := by omega
    subst e2
    by_cases e3 : i = j
    · rw [e3]; exact Int.le_refl _
    · exact Int.le_trans (h i (j - 1) (by omega) (by omega)) hv
theorem Dcr.more {p : Array Nat} {m : Nat} (h : Dcr R p m) (h1 : 1 ≤ m) (hv : rk R p m ≤ rk R p (m - 1)) : Dcr R p (m + 1) := fun i j hij hj => by
  by_cases e : j < m
  · exact h i j hij e
  · have e2 : j = m := by omega
    subst e2
    by_cases e3 : i = j
    · rw [e3]; exact Int.le_refl _
    · exact Int.le_trans hv (h i (j - 1) (by omega) (by omega))
theorem g_asc {p : Array Nat} (hp : PP n p) : ∀ (f m : Nat), 1 ≤ m → m + f ≤ n → Inc R p m → Gd R n (kas_asc p f m) fun m' => m ≤ m' ∧ m' ≤ m + f ∧ Inc R p m' ∧ (m' < m + f → rk R p m' < rk R p (m' - 1))
  | 0, m, _, _, h => ⟨Nat.le_refl _, Nat.le_refl _, h, fun z => absurd z (by omega)⟩
  | f + 1, m, h1, hm, h => by
    refine ⟨hp.below (by omega), hp.below (by omega), ?_⟩
    by_cases c : rk R p m < rk R p (m - 1)
    · rw [show decide (R (p.getD m 0) < R (p.getD (m - 1) 0)) = true from decide_eq_true c]; refine gd_t ?_
      exact ⟨Nat.le_refl _, by omega, h, fun _ => c⟩
    · rw [show decide (R (p.getD m 0) < R (p.getD (m - 1) 0)) = false from decide_eq_false c]; refine gd_f ?_
      refine Gd.mono (fun a z => ?_) (g_asc hp f (m + 1) (by omega) (by omega) (h.more h1 (Int.not_lt.mp c)))
      exact ⟨by omega, by omega, z.2.2.1, fun q => z.2.2.2 (by omega)⟩
def Eqs (R : Nat → Int) (p : Array Nat) (m q : Nat) : Prop := ∀ i, m - (q + 1) ≤ i → i < m → rk R p i = rk R p (m - 1)
theorem rev_same {p : Array Nat} {m q : Nat} (hm : m ≤ p.size) (hq : q + 1 ≤ m) (h : Eqs R p m q) (k : Nat) : rk R (kas_rev p (m - (q + 1)) m) k = rk R p k := by
  rw [rk_rev hm]
  split
  · rename_i z; rw [h _ (by omega) (by omega), h k (by omega) (by omega)]
  · rfl
theorem g_desc : ∀ (f : Nat) (p : Array Nat) (m q : Nat), PP n p → q + 1 ≤ m → m + f ≤ n → Dcr R p m → Eqs R p m q →
    Gd R n (kas_desc f p m q) fun r => PP n r.1 ∧ m ≤ r.2.1 ∧ r.2.1 ≤ m + f ∧ r.2.2 + 1 ≤ r.2.1 ∧ Dcr R r.1 r.2.1 ∧ Eqs R r.1 r.2.1 r.2.2
  | 0, p, m, q, hp, hq, hm, hd, he => ⟨hp, Nat.le_refl _, Nat.le_refl _, hq, hd, he⟩
  | f + 1, p, m, q, hp, hq, hm, hd, he => by
    refine ⟨hp.below (by omega), hp.below (by omega), ?_⟩
    have hs := hp.sz
    by_cases c : rk R p m < rk R p (m - 1)
    · rw [show decide (R (p.getD m 0) < R (p.getD (m - 1) 0)) = true from decide_eq_true c]; refine gd_t ?_
      by_cases zq : q > 0
      · rw [if_pos zq]
        have sm := rev_same (R := R) (p := p) (m := m) (q := q) (by omega) hq he
        refine Gd.mono (fun a z => ?_) (g_desc f (kas_rev p (m - (q + 1)) m) (m + 1) 0 (hp.rev _ _) (by omega) (by omega) (Dcr.more (fun i j a b => by rw [sm, sm]; exact hd i j a b) (by omega) (by rw [sm, sm]; exact Int.le_of_lt c)) (fun i a b => by rw [show i = m + 1 - 1 by omega]))
        exact ⟨z.1, by omega, by omega, z.2.2.2.1, z.2.2.2.2⟩
      · rw [if_neg zq]
        refine Gd.mono (fun a z => ?_) (g_desc f p (m + 1) 0 hp (by omega) (by omega) (hd.more (by omega) (Int.le_of_lt c)) (fun i a b => by rw [show i = m + 1 - 1 by omega]))
        exact ⟨z.1, by omega, by omega, z.2.2.2.1, z.2.2.2.2⟩
    · rw [show decide (R (p.getD m 0) < R (p.getD (m - 1) 0)) = false from decide_eq_false c]; refine gd_f ?_
      refine ⟨hp.below (by omega), hp.below (by omega), ?_⟩
      by_cases d : rk R p (m - 1) < rk R p m
      · rw [show decide (R (p.getD (m - 1) 0) < R (p.getD m 0)) = true from decide_eq_true d]; refine gd_t ?_
        exact ⟨hp, Nat.le_refl _, show m ≤ m + (f + 1) by omega, hq, hd, he⟩
      · rw [show decide (R (p.getD (m - 1) 0) < R (p.getD m 0)) = false from decide_eq_false d]; refine gd_f ?_
        have e : rk R p m = rk R p (m - 1) := by omega
        refine Gd.mono (fun a z => ?_) (g_desc f p (m + 1) (q + 1) hp (by omega) (by omega) (hd.more (by omega) (by omega)) (fun i a b => ?_))
        · exact ⟨z.1, by omega, by omega, z.2.2.2.1, z.2.2.2.2⟩
        · rw [show m + 1 - 1 = m by omega, e]
          by_cases e2 : i = m
          · rw [e2, e]
          · exact he i (by omega) (by omega)
theorem g_tail3 {p : Array Nat} {m : Nat} (hp : PP n p) (h1 : 1 ≤ m) (hm : m ≤ n) (hd : Dcr R p m) : Gd R n (kas_tail3 m n p) fun r => PP n r.2 ∧ 1 ≤ r.1 ∧ r.1 ≤ n ∧ Inc R r.2 r.1 := by
  refine Gd.bind ?_
  have hs := hp.sz
  refine Gd.mono (fun a z => ?_) (g_asc (hp.rev 0 m) (n - m) m h1 (by omega) (fun i j hij hj => ?_))
  · exact ⟨hp.rev 0 m, by omega, by omega, z.2.2.1⟩
  · rw [rk_rev (by omega), rk_rev (by omega), if_pos (by omega), if_pos (by omega)]
    exact hd _ _ (by omega) (by omega)
theorem g_descPart {p : Array Nat} {m : Nat} (hp : PP n p) (h1 : 1 ≤ m) (hm : m + 1 ≤ n) (hd : Dcr R p (m + 1)) : Gd R n (kas_descPart m n p) fun r => PP n r.2 ∧ 1 ≤ r.1 ∧ r.1 ≤ n ∧ Inc R r.2 r.1 := by
  refine Gd.bind ?_
  refine Gd.mono (fun r z => ?_) (g_desc (n - (m + 1)) p (m + 1) 0 hp (by omega) (by omega) hd (fun i a b => by rw [show i = m + 1 - 1 by omega]))
  obtain ⟨z1, z2, z3, z4, z5, z6⟩ := z
  have hs := z1.sz
  by_cases zq : r.2.2 > 0
  · rw [if_pos zq]
    have sm := rev_same (R := R) (p := r.1) (m := r.2.1) (q := r.2.2) (by omega) z4 z6
    exact g_tail3 (z1.rev _ _) (by omega) (by omega) (fun i j a b => by rw [sm, sm]; exact z5 i j a b)
  · rw [if_neg zq]
    exact g_tail3 z1 (by omega) (by omega) z5
theorem g_count {p : Array Nat} (hp : PP n p) (h1 : 1 ≤ n) : Gd R n (kas_count n p) fun r => PP n r.2 ∧ 1 ≤ r.1 ∧ r.1 ≤ n ∧ Inc R r.2 r.1 := by
  refine Gd.bind ?_
  have hs := hp.sz
  refine Gd.mono (fun m z => ?_) (g_asc hp (n - 1) 1 (by omega) (by omega) (fun i j a b => by rw [show i = j by omega]; exact Int.le_refl _))
  obtain ⟨z1, z2, z3, z4⟩ := z
  by_cases e : m = n
  · rw [if_pos (by simp [e])]
    exact ⟨hp, z1, by omega, z3⟩
  · rw [if_neg (by simp [e])]
    have lt := z4 (by omega)
    by_cases g : m > 1
    · rw [if_pos g]
      refine ⟨hp.below (by omega), hp.below (by omega), ?_⟩
      by_cases c : rk R p 0 < rk R p (m - 1)
      · rw [show decide (R (p.getD 0 0) < R (p.getD (m - 1) 0)) = true from decide_eq_true c]; refine gd_t ?_
        exact ⟨hp, z1, by omega, z3⟩
      · rw [show decide (R (p.getD 0 0) < R (p.getD (m - 1) 0)) = false from decide_eq_false c]; refine gd_f ?_
        have al : ∀ i, i < m → rk R p i = rk R p (m - 1) := fun i hi => by
          have a1 := z3 0 i (by omega) hi
          have a2 := z3 i (m - 1) (by omega) (by omega)
          omega
        have sm : ∀ k, rk R (kas_rev p 0 m) k = rk R p k := fun k => by
          rw [rk_rev (by omega)]
          split
          · rename_i z; rw [al _ (by omega), al k (by omega)]
          · rfl
        refine g_descPart (hp.rev _ _) z1 (by omega) (Dcr.more (fun i j a b => ?_) z1 (by rw [sm, sm]; exact Int.le_of_lt lt))
        rw [sm, sm, al i (by omega), al j b]; exact Int.le_refl _
    · rw [if_neg g]
      have e1 : m = 1 := by omega
      subst e1
      exact g_descPart hp (by omega) (by omega) (Dcr.more (fun i j a b => by rw [show i = j by omega]; exact Int.le_refl _) (by omega) (Int.le_of_lt lt))
theorem g_place {p : Array Nat} {k : Nat} (hp : PP n p) (hk : k < n) (hi : Inc R p k) : ∀ (f l r : Nat), l ≤ r → r ≤ k → r - l ≤ f → (∀ i, i < l → rk R p i ≤ rk R p k) → (∀ i, r ≤ i → i < k → rk R p k < rk R p i) →
    Gd R n (kas_place p k f l r) fun l' => l' ≤ k ∧ (∀ i, i < l' → rk R p i ≤ rk R p k) ∧ ∀ i, l' ≤ i → i < k → rk R p k < rk R p i
  | 0, l, r, a, b, c, d, e => ⟨by omega, d, fun i q1 q2 => e i (by omega) q2⟩
  | f + 1, l, r, a, b, c, d, e => by
    unfold kas_place
    by_cases z : l ≥ r
    · rw [if_pos z]
      exact ⟨by omega, d, fun i q1 q2 => e i (by omega) q2⟩
    · rw [if_neg z]
      have hm : (l + r) / 2 < r := by omega
      refine ⟨hp.below hk, hp.below (by omega), ?_⟩
      by_cases q : rk R p k < rk R p ((l + r) / 2)
      · rw [show decide (R (p.getD k 0) < R (p.getD ((l + r) / 2) 0)) = true from decide_eq_true q]; refine gd_t ?_
        refine g_place hp hk hi f l ((l + r) / 2) (by omega) (by omega) (by omega) d fun i q1 q2 => Int.lt_of_lt_of_le q (hi _ _ q1 q2)
      · rw [show decide (R (p.getD k 0) < R (p.getD ((l + r) / 2) 0)) = false from decide_eq_false q]; refine gd_f ?_
        refine g_place hp hk hi f ((l + r) / 2 + 1) r (by omega) b (by omega) (fun i q1 => ?_) e
        exact Int.le_trans (hi i ((l + r) / 2) (by omega) (by omega)) (Int.not_lt.mp q)
theorem g_bin : ∀ (f : Nat) (p : Array Nat) (k : Nat), PP n p → k + f = n → Inc R p k → Gd R n (kas_bin f p k) fun p' => PP n p' ∧ Inc R p' n
  | 0, p, k, hp, hk, hi => ⟨hp, by rw [← hk]; exact hi⟩
  | f + 1, p, k, hp, hk, hi => by
    refine Gd.bind ?_
    have hs := hp.sz
    refine Gd.mono (fun l z => ?_) (g_place hp (by omega) hi k 0 k (by omega) (by omega) (by omega) (fun i q => absurd q (by omega)) (fun i q1 q2 => absurd q1 (by omega)))
    obtain ⟨z1, z2, z3⟩ := z
    refine g_bin f (bubble p k (k - l)) (k + 1) (hp.bub _ _) (by omega) fun i j hij hj => ?_
    rw [rk_bub (by omega) (by omega), rk_bub (by omega) (by omega)]
    have e : k - (k - l) = l := by omega
    rw [e]
    by_cases i1 : i = l
    · rw [if_pos i1]
      by_cases j1 : j = l
      · rw [if_pos j1]; exact Int.le_refl _
      · rw [if_neg j1, if_pos (by omega)]
        exact Int.le_of_lt (z3 (j - 1) (by omega) (by omega))
    · rw [if_neg i1]
      by_cases i2 : l < i
      · rw [if_pos (by omega), if_neg (by omega), if_pos (by omega)]
        exact hi _ _ (by omega) (by omega)
      · rw [if_neg (by omega)]
        by_cases j1 : j = l
        · rw [if_pos j1]; exact z2 i (by omega)
        · rw [if_neg j1]
          by_cases j2 : l < j
          · rw [if_pos (by omega)]; exact hi _ _ (by omega) (by omega)
          · rw [if_neg (by omega)]; exact hi _ _ (by omega) (by omega)
theorem g_sort (h : 1 ≤ n) : Gd R n (kas_sort n) fun p => PP n p ∧ Inc R p n := by
  refine Gd.bind (Gd.mono (fun r z => ?_) (g_count (p := (List.range n).toArray) (Array.Perm.refl _) h))
  obtain ⟨z1, z2, z3, z4⟩ := z
  by_cases c : r.1 < n
  · rw [if_pos c, show max r.1 1 = r.1 by omega]
    exact g_bin _ _ _ z1 (by omega) z4
  · rw [if_neg c]
    have e : r.1 = n := by omega
    exact ⟨z1, by rw [← e]; exact z4⟩
end
end L2

/-! sorted of a list whose items stand in the order of ranks. -/
namespace L2
open PySem PySem.Spec PyProof.Rows PySem.W
section
variable {prog : Program} {w : World} {A : Around} {E : Value → Shared → Prop} {s : Shared} {vs : List Value} {R : Nat → Int} {κ : SortKind}
/-- the items taken by places -/
def picked (vs : List Value) (p : Array Nat) : List Value := p.toList.map fun i => vs.getD i Value.none
theorem picked_all (vs : List Value) : picked vs (List.range vs.length).toArray = vs := by
  unfold picked
  apply List.ext_getElem
  · simp
  · intro i h1 h2
    simp [h2]
theorem zip_snd (vs : List Value) : ((vs.toArray.zip vs.toArray).map (·.2)).toList = vs := by
  rw [Array.toList_map, Array.toList_zip]
  apply List.ext_getElem
  · simp
  · intro i h1 h2
    simp
/-- how the items are asked: of one kind, and each two as their ranks -/
structure Rkd (prog : Program) (w : World) (A : Around) (s : Shared) (vs : List Value) (κ : SortKind) (R : Nat → Int) : Prop where
  kd : 2 ≤ vs.length → ∀ h' : Heap, (∀ b o, s.heap.get? b = some o → h'.get? b = some o) → ∀ (E : Value → Shared → Prop) (Q : SortKind → Shared → Prop), Q κ { s with heap := h' } → wpAny (model prog w) A (keyKind' vs.toArray) Q E { s with heap := h' }
  lt : ∀ h' : Heap, (∀ b o, s.heap.get? b = some o → h'.get? b = some o) → ∀ (i j : Nat) (C : Bool → Shared → Prop), i < vs.length → j < vs.length → C (decide (R i < R j)) { s with heap := h' } → kas_ask prog w A κ vs i j C { s with heap := h' }
theorem sort_at {a : Addr} {n : Nat} {h0 : Heap} {P : PySem.Fin → Shared → Prop} (ho : h0.get? a = some (seqObj "list" vs.toArray n)) (h64 : vs.length < 64) (rk : Rkd prog w A s vs κ R) (kp : ∀ b o, s.heap.get? b = some o → b ≠ a ∧ h0.get? b = some o)
    (k : ∀ p : Array Nat, PP vs.length p → Inc R p vs.length → P (.done (.ret .none)) { s with heap := sortedHeap h0 a vs (picked vs p).toArray }) :
    wpAny (model prog w) A (Builtin.«list.sort» ⟨[.ref a], []⟩) P E { s with heap := h0 } := by
  have lo := Heap.lt_size ho
  have few : vs.length ≤ sizeLine := by rw [sizeLine_eq]; omega
  let h1 := h0.update a (Obj.mapSeq fun _ => (#[] : Array Value))
  let h3 := (h1.push (seqObj "tuple" vs.toArray 0)).push (seqObj "list" #[] 0)
  obtain ⟨e, q1⟩ : ∃ e, h1.get? a = some (seqObj "list" #[] e) := ⟨_, get?_update_seq ho fun _ => #[]⟩
  have q3 : h3.get? a = some (seqObj "list" #[] e) := Heap.get?_push_of_some _ (Heap.get?_push_of_some _ q1)
  have k3 : ∀ b o, s.heap.get? b = some o → h3.get? b = some o := fun b o z => Heap.get?_push_of_some _ (Heap.get?_push_of_some _ ((Heap.SameBut.update h0 a _).extBut b o (kp b o z).1 (kp b o z).2))
  rw [list_sort_plain]
  refine wpAny_bind (listItems_at (s := { s with heap := h0 }) ho rfl (wpAny_bind (listUpdate_at (s := { s with heap := h0 }) ho rfl (wpAny_bind (seqEpoch_at (s := { s with heap := h1 }) q1 rfl (wpAny_bind (wpAny_newTuple (wpAny_bind (wpAny_newList (wpAny_holding ?_) (Nat.zero_le _))) few)))) (by simpa using few) (Nat.zero_le _))))
  show wpAny (model prog w) A _ P E { s with heap := h3 }
  dsimp only
  have last : ∀ (st : SortSt) (p : Array Nat), PP vs.length p → Inc R p vs.length → ((arrOf st).map (·.2)) = (picked vs p).toArray → failedOf st = none →
      wpAny (model prog w) A (do
        let touched := (← seqEpoch a) != e
        Builtin.List.listUpdate (.ref a) fun _ => (arrOf st).map (·.2)
        if let some e := failedOf st then rule "list.sort.comparison-raised"; throw e
        if touched then rule "list.sort.modified"; raiseError "ValueError" "list modified during sort"
        ret .none) P E { s with heap := h3 } := fun st p pp ic eo ef => by
    refine wpAny_bind (seqEpoch_at (s := { s with heap := h3 }) q3 rfl ?_)
    have lz : ((picked vs p).toArray).size = vs.length := by unfold picked; rw [List.size_toArray, List.length_map, Array.length_toList, pp.sz]
    rw [eo, ef]
    refine wpAny_bind (listUpdate_at (s := { s with heap := h3 }) q3 rfl ?_ (Nat.zero_le _) (by show ((picked vs p).toArray).size ≤ _; rw [lz]; omega))
    have ne : ¬ ((e != e) = true) := by simp
    rw [if_neg ne]
    exact wpAny_pure (k p pp ic)
  by_cases two : vs.toArray.size < 2
  · rw [if_pos two, if_pos two]
    refine wpAny_bind (wpAny_pure ?_)
    rw [StateT.run_pure]
    refine wpAny_bind (wpAny_pure ?_)
    refine last _ (List.range vs.length).toArray (Array.Perm.refl _) (fun i j a b => ?_) ?_ rfl
    · have : i = j := by rw [List.size_toArray] at two; omega
      rw [this]; exact Int.le_refl _
    · apply Array.toList_inj.mp
      rw [picked_all]
      exact zip_snd vs
  · have t2 : 2 ≤ vs.length := by rw [List.size_toArray] at two; omega
    rw [if_neg two, if_neg two]
    refine wpAny_bind (rk.kd t2 h3 k3 _ _ ?_)
    refine wpAny_bind (wpAny_mono (kat_run (ks := vs) (vs := vs) (s := { s with heap := h3 }) (Q := fun st s' => s' = { s with heap := h3 } ∧ ∃ p : Array Nat, PP vs.length p ∧ Inc R p vs.length ∧ arrOf st = p.map (kas_item (vs.toArray.zip vs.toArray)) ∧ failedOf st = none)
      (G := fun p s' => s' = { s with heap := h3 } ∧ PP vs.length p ∧ Inc R p vs.length) rfl t2 h64 (fun p st s' _ a2 a3 a4 => ⟨a4.1, p, a4.2.1, a4.2.2, a2, a3⟩) (Gd.wp (R := R) (fun i j C hi hj c => rk.lt h3 k3 i j C hi hj c) (fun p z => ⟨rfl, z.1, z.2⟩) (g_sort (by omega)))) ?_ fun _ _ z => z)
    rintro ⟨⟨⟩, st⟩ s' ⟨rfl, p, pp, ic, ea, ef⟩
    exact last st p pp ic (kat_snds rfl ea) ef
end
end L2

/-! sorted of what is collected: of a list, of a dict's keys. -/
namespace L2
open PySem PySem.Spec PyProof.Rows PySem.W
section
variable {prog : Program} {w : World} {A : Around} {E : Value → Shared → Prop} {s : Shared} {vs : List Value} {R : Nat → Int} {κ : SortKind}
theorem sorted_got {v : Value} {Q : Value → Shared → Prop} (h64 : vs.length < 64)
    (col : ∀ (E' : Value → Shared → Prop) (Q' : List Value → Shared → Prop), (∀ h' : Heap, s.heap.objs.size ≤ h'.objs.size → (∀ b o, s.heap.get? b = some o → h'.get? b = some o) → Q' vs { s with heap := h' }) → wpAny (model prog w) A.in1 (collect v) Q' E' s)
    (rk : Rkd prog w A.in1.in1 s vs κ R)
    (k : ∀ (p : Array Nat) (h' : Heap) (l : Addr) (e : Nat), PP vs.length p → Inc R p vs.length → s.heap.objs.size ≤ l → (∀ b o, s.heap.get? b = some o → h'.get? b = some o) → h'.get? l = some (seqObj "list" (picked vs p).toArray e) → Q (.ref l) { s with heap := h' }) :
    wpAny (model prog w) A (call (.builtin "sorted") [v]) Q E s := by
  have few : vs.length ≤ sizeLine := by rw [sizeLine_eq]; omega
  refine Calls.call_function_entry kind_sorted plain_sorted entry_sorted (args_sorted1 _) ?_
  unfold Builtin.«sorted»
  refine wpAny_bind (m := checkCount "sorted" 1 1 _) (wpAny_pure (wpAny_bind (col _ _ fun h1 z1 k1 => wpAny_bind (wpAny_newList ?_ few))))
  let h2 := h1.push (seqObj "list" vs.toArray 0)
  have q2 : h2.get? h1.objs.size = some (seqObj "list" vs.toArray 0) := Heap.get?_push_size _ rfl
  show wpAny (model prog w) A.in1 _ _ _ { s with heap := h2 }
  have kp : ∀ b o, s.heap.get? b = some o → b ≠ h1.objs.size ∧ h2.get? b = some o := fun b o z => ⟨Nat.ne_of_lt (Nat.lt_of_lt_of_le (Heap.lt_size z) z1), Heap.get?_push_of_some _ (k1 b o z)⟩
  refine wpAny_bind (wpAny_holding (wpAny_call_entry (s := { s with heap := h2 }) slot_list_sort ⟨_, q2, rfl⟩ entry_list_sort (sort_at (R := R) (s := s) q2 h64 rk kp fun p pp ic => ⟨_, rfl, wpAny_pure ⟨_, rfl, ?_⟩⟩) (args_list_sort _)))
  obtain ⟨e, he⟩ := sortedHeap_at (vs := vs) (out := (picked vs p).toArray) q2
  refine k p _ _ e pp ic z1 (fun b o z => ?_) he
  rw [sortedHeap_old (kp b o z).1 (Heap.lt_size (kp b o z).2)]
  exact (kp b o z).2
theorem collect_lst {l : Addr} {Q : List Value → Shared → Prop} (hl : s.heap.IsList l vs.toArray) (few : vs.length ≤ sizeLine) (h : ∀ h' : Heap, s.heap.objs.size ≤ h'.objs.size → (∀ b o, s.heap.get? b = some o → h'.get? b = some o) → Q vs { s with heap := h' }) : wpAny (model prog w) A (collect (.ref l)) Q E s := by
  refine collect_list hl (h _ ?_ fun b o z => ?_) few
  · rw [Heap.size_update, size_push']; exact Nat.le_succ _
  · exact (Heap.SameBut.update _ _ _).extBut b o (Nat.ne_of_lt (Heap.lt_size z)) (Heap.get?_push_of_some _ z)
end
end L2
namespace L3
open PySem PySem.Spec PyProof.Rows L2
section
variable {prog : Program} {w : World} {A : Around} {E : Value → Shared → Prop} {s : Shared} {d : Addr} {ep : Nat} {es : Array DictEntry}
end
end L3

/-! Tuples of ints in their order; tuples whose first is such a tuple. -/
namespace L2
open PySem PySem.Spec PyProof.Rows PySem.W
def lexI : List Int → List Int → Bool
  | [], [] => false
  | [], _ :: _ => true
  | _ :: _, [] => false
  | a :: l, b :: m => if a = b then lexI l m else decide (a < b)
theorem lex_irrefl : ∀ l : List Int, lexI l l = false
  | [] => rfl
  | a :: l => by rw [lexI, if_pos rfl]; exact lex_irrefl l
theorem lex_trans : ∀ {l m n : List Int}, lexI l m = true → lexI m n = true → lexI l n = true
  | [], [], _, h, _ => by simp [lexI] at h
  | [], _ :: _, [], _, h => by simp [lexI] at h
  | [], _ :: _, _ :: _, _, _ => rfl
  | _ :: _, [], _, h, _ => by simp [lexI] at h
  | _ :: _, _ :: _, [], _, h => by simp [lexI] at h
  | a :: l, b :: m, c :: n, h1, h2 => by
    rw [lexI] at h1 h2 ⊢
    by_cases e1 : a = b
    · subst e1
      rw [if_pos rfl] at h1
      by_cases e2 : a = c
      · rw [if_pos e2] at h2 ⊢; exact lex_trans h1 h2
      · rw [if_neg e2] at h2 ⊢; exact h2
    · rw [if_neg e1] at h1
      have h1 := of_decide_eq_true h1
      by_cases e2 : b = c
      · subst e2
        rw [if_neg e1]; exact decide_eq_true h1
      · rw [if_neg e2] at h2
        have h2 := of_decide_eq_true h2
        rw [if_neg (by omega)]; exact decide_eq_true (by omega)
theorem lex_total : ∀ {l m : List Int}, l ≠ m → lexI l m = true ∨ lexI m l = true
  | [], [], h => absurd rfl h
  | [], _ :: _, _ => .inl rfl
  | _ :: _, [], _ => .inr rfl
  | a :: l, b :: m, h => by
    rw [lexI, lexI]
    by_cases e : a = b
    · subst e
      rw [if_pos rfl, if_pos rfl]; exact lex_total fun z => h (by rw [z])
    · rw [if_neg e, if_neg (Ne.symm e)]
      rcases Int.lt_or_gt_of_ne e with z | z
      · exact .inl (decide_eq_true z)
      · exact .inr (decide_eq_true z)
/-- how many stand ahead -/
def rnk (ks : List (List Int)) (i : Nat) : Int := ((ks.filter fun k => lexI k (ks.getD i [])).length : Nat)
theorem filter_sub {α : Type} {p q : α → Bool} (h : ∀ x, p x = true → q x = true) : ∀ l : List α, (l.filter p).length ≤ (l.filter q).length
  | [] => Nat.le_refl _
  | a :: l => by
    have ih := filter_sub h l
    rw [List.filter_cons, List.filter_cons]
    by_cases e : p a = true
    · rw [if_pos e, if_pos (h a e)]; simpa using ih
    · rw [if_neg e]
      by_cases e2 : q a = true
      · rw [if_pos e2]; simp only [List.length_cons]; omega
      · rw [if_neg e2]; exact ih
theorem filter_more {α : Type} {p q : α → Bool} (h : ∀ x, p x = true → q x = true) {a : α} (ha : p a = false) (hb : q a = true) : ∀ {l : List α}, a ∈ l → (l.filter p).length < (l.filter q).length
  | [], m => by simp at m
  | b :: l, m => by
    have ih := filter_sub h l
    rw [List.filter_cons, List.filter_cons]
    rcases List.mem_cons.mp m with rfl | m
    · rw [if_neg (by rw [ha]; simp), if_pos hb]; simp only [List.length_cons]; omega
    · have ih := filter_more h ha hb m
      by_cases e : p b = true
      · rw [if_pos e, if_pos (h b e)]; simpa using ih
      · rw [if_neg e]
        by_cases e2 : q b = true
        · rw [if_pos e2]; simp only [List.length_cons]; omega
        · rw [if_neg e2]; exact ih
theorem rnk_lt {ks : List (List Int)} {i j : Nat} (hi : i < ks.length) (hj : j < ks.length) : decide (rnk ks i < rnk ks j) = lexI (ks.getD i []) (ks.getD j []) := by
  have mi : ks.getD i [] ∈ ks := by simp [hi]
  have mj : ks.getD j [] ∈ ks := by simp [hj]
  generalize hx : ks.getD i [] = x at *
  generalize hy : ks.getD j [] = y at *
  unfold rnk
  rw [hx, hy]
  cases e : lexI x y with
  | true =>
    refine decide_eq_true ?_
    have := filter_more (p := fun k => lexI k x) (q := fun k => lexI k y) (fun k h => lex_trans h e) (lex_irrefl x) e mi
    omega
  | false =>
    refine decide_eq_false ?_
    by_cases z : x = y
    · subst z; omega
    · have h2 := (lex_total z).resolve_left (by rw [e]; simp)
      have := filter_sub (p := fun k => lexI k y) (q := fun k => lexI k x) (fun k h => lex_trans h h2) ks
      omega
section
variable {prog : Program} {w : World} {A : Around} {E : Value → Shared → Prop} {s : Shared}
theorem int_of_is {a : Int} {v : Value} (h : (intKind prog w).is a v = true) : ∃ t, v = .int a t := by
  cases v <;> simp [intKind, Value.isInt] at h
  subst h; exact ⟨_, rfl⟩
theorem ask_int {b : Bool} {a c : Int} {t u : Tok} {Q : Bool → Shared → Prop} (q : Q (decide (a < c)) s) : wpAny (model prog w) A (oneLt' b (.int a t) (.int c u)) Q E s := by
  cases b with
  | true => exact oneLt_int q
  | false => exact kat_one _ _ (lt_int q)
theorem lex_flat {b fin : Bool} {Q : Bool → Shared → Prop} : ∀ {xs ys : List Value} {l m : List Int} (i : Nat), ItemsAre (intKind prog w) l xs → ItemsAre (intKind prog w) m ys → l.length = m.length → Q (lexI l m) s → fin = false → KatLex prog w A b fin Q (xs.zip ys) i s
  | _, _, _, _, _, .nil, .nil, _, q, f => by
    show Q fin s
    rw [f]; exact q
  | _, _, _, _, _, .nil, .cons _ _, h, _, _ => by simp at h
  | _, _, _, _, _, .cons _ _, .nil, h, _, _ => by simp at h
  | _, _, a :: l, c :: m, i, .cons h1 r1, .cons h2 r2, h, q, f => by
    obtain ⟨t, rfl⟩ := int_of_is h1
    obtain ⟨u, rfl⟩ := int_of_is h2
    rw [List.zip_cons_cons]
    refine kat_cons (wpAny_eqBool_int ?_)
    rw [lexI] at q
    by_cases e : a = c
    · rw [if_pos e] at q
      rw [show (a == c) = true from by simp [e]]
      exact kat_yes (lex_flat (i + 1) r1 r2 (by simpa using h) q f)
    · rw [if_neg e] at q
      rw [show (a == c) = false from by simp [e]]
      exact kat_no (ask_int q)
abbrev IsT (prog : Program) (w : World) (h : Heap) (l : List Int) (a : Addr) : Prop := IsTupleKey (intKind prog w) h l a
theorem IsT.mono {h h' : Heap} {l : List Int} {a : Addr} (x : IsT prog w h l a) (k : ∀ o, h.get? a = some o → h'.get? a = some o) : IsT prog w h' l a := by
  obtain ⟨o, its, n, h1, h2⟩ := x
  exact ⟨o, its, n, k o h1, h2⟩
/-- what is pointed at by the list's items -/
def Pts {α : Type} (P : α → Addr → Prop) : List α → List Value → Prop
  | [], [] => True
  | l :: ls, v :: vs => (∃ a, v = .ref a ∧ P l a) ∧ Pts P ls vs
  | _, _ => False
theorem Pts.len {α : Type} {P : α → Addr → Prop} : ∀ {ls : List α} {vs : List Value}, Pts P ls vs → vs.length = ls.length
  | [], [], _ => rfl
  | [], _ :: _, h => h.elim
  | _ :: _, [], h => h.elim
  | _ :: _, _ :: _, h => by simp [h.2.len]
theorem Pts.get {α : Type} {P : α → Addr → Prop} : ∀ {ls : List α} {vs : List Value}, Pts P ls vs → ∀ {i : Nat} (hi : i < ls.length), ∃ a, vs.getD i Value.none = .ref a ∧ P ls[i] a
  | [], [], _, i, hi => by simp at hi
  | [], _ :: _, h, _, _ => h.elim
  | _ :: _, [], h, _, _ => h.elim
  | l :: ls, v :: vs, h, 0, _ => by obtain ⟨⟨a, rfl, p⟩, _⟩ := h; exact ⟨a, rfl, p⟩
  | l :: ls, v :: vs, h, i + 1, hi => by
    obtain ⟨a, e, p⟩ := h.2.get (i := i) (by simpa using hi)
    exact ⟨a, by simpa using e, by simpa using p⟩
theorem looks_int {M : Model} {h : Heap} {a : Int} {t : Tok} : Looks M h (typeOf (.int a t)) (.type "int") := Looks.of_pure rfl
/-- tuples of ints of one length from 1 on -/
theorem rkd_flat {ls : List (List Int)} {vs : List Value} {n : Nat} (hn : 1 ≤ n) (hl : ∀ l ∈ ls, l.length = n) (p : Pts (IsT prog w s.heap) ls vs) : Rkd prog w A s vs (tuples' true) (rnk ls) where
  kd := fun h2 h' k E Q q => by
    have fs : ∀ {ls : List (List Int)} {vs : List Value}, (∀ l ∈ ls, l.length = n) → Pts (IsT prog w s.heap) ls vs → ∃ fs : List Value, KatTups h' vs fs ∧ fs.length = vs.length ∧ ∀ f ∈ fs, ∃ a t, f = .int a t := by
      intro ls vs
      induction ls generalizing vs with
      | nil => intro _ p; cases vs with | nil => exact ⟨[], trivial, rfl, by simp⟩ | cons _ _ => exact p.elim
      | cons l ls ih =>
        intro hl p
        cases vs with
        | nil => exact p.elim
        | cons v vs =>
          obtain ⟨⟨a, rfl, o, its, m, h1, h2, h3, h4⟩, p⟩ := p
          obtain ⟨fs, f1, f2, f3⟩ := ih (fun l' h => hl l' (List.mem_cons_of_mem _ h)) p
          have l1 := hl l List.mem_cons_self
          cases hi : its.toList with
          | nil => rw [hi] at h4; cases h4; simp at l1; omega
          | cons f r =>
            rw [hi] at h4
            cases h4 with
            | cons q1 q2 =>
              obtain ⟨t, rfl⟩ := int_of_is q1
              exact ⟨_ :: fs, KatTups.cons (k _ _ h1) h2 h3 (by rw [← Array.getElem?_toList, hi]; rfl) f1, by simp [f2], fun g hg => (List.mem_cons.mp hg).elim (fun e => ⟨_, _, e⟩) (f3 g)⟩
    obtain ⟨fs, f1, f2, f3⟩ := fs hl p
    exact kat_kind (s := { s with heap := h' }) (T := .type "int") f1 (by omega) (fun v hv => by obtain ⟨a, t, rfl⟩ := f3 v hv; exact looks_int) (by decide) (by exact q)
  lt := fun h' k i j C hi hj c => by
    have e := p.len
    obtain ⟨a, ea, o, its, m, h1, h2, h3, h4⟩ := p.get (i := i) (by omega)
    have gi : ls.getD i [] = ls[i] := by simp [show i < ls.length by omega]
    have gj : ls.getD j [] = ls[j] := by simp [show j < ls.length by omega]
    obtain ⟨a', ea', o', its', m', h1', h2', h3', h4'⟩ := p.get (i := j) (by omega)
    unfold kas_ask
    rw [ea, ea']
    have l1 : (ls[i]).length = n := hl _ (List.getElem_mem _)
    have l2 : (ls[j]).length = n := hl _ (List.getElem_mem _)
    have z1 : its.size = n := by rw [← Array.length_toList, ← h4.length, l1]
    have z2 : its'.size = n := by rw [← Array.length_toList, ← h4'.length, l2]
    refine kat_lt (s := { s with heap := h' }) (k _ _ h1) h3 (k _ _ h1') h3' (lex_flat 0 h4 h4' (l1.trans l2.symm) ?_ (by rw [z1, z2]; simp))
    rw [← gi, ← gj, ← rnk_lt (by omega) (by omega)]; exact c
end
end L2

/-! Tuples of ints compared by <; pairs of such tuples in the order of their firsts. -/
namespace L2
open PySem PySem.Spec PyProof.Rows PySem.W
open PySem.SeqAt
open PySem.AutoSeq1 (wpAny_loadPart')
open PySem.MeetsSeq PySem.MeetsSeq2 PySem.MeetsSeq3
theorem intsAre_len : ∀ {vs : List Value} {ns : List Int}, IntsAre vs ns → vs.length = ns.length
  | _, _, .nil => rfl
  | _, _, .cons _ _ h => by simp [intsAre_len h]
theorem tuple_lt_is (l b : Addr) (items items2 : Array Value) (n n2 : Nat) (dd dd2 : Option Addr) (sl sl2 : Array (Option Value)) (ns ms : List Int) (hi : IntsAre items.toList ns) (hj : IntsAre items2.toList ms) :
    Meets (Builtin.«tuple.__lt__» ⟨[.ref l, .ref b], []⟩)
      (fun _ R s => s.heap.get? l = some ⟨.type "tuple", dd, .seq items n, sl⟩ ∧ s.heap.get? b = some ⟨.type "tuple", dd2, .seq items2 n2, sl2⟩ ∧ R (.ok (.ret (.bool (lexI ns ms)))) s) :=
  .of_wp fun prog w A R s h => by
    obtain ⟨hp, g, d, tk, os⟩ := s
    obtain ⟨hl, hb, h⟩ := h
    have f2 := AutoSeq1.sub_tuple_tuple
    wp_walk using wpAny_loadPart' hl, wpAny_loadPart' hb, wpAny_forIn_list _ (fun rest b s' => b.1 = none ∧ s' = ⟨hp, g, d, tk, os⟩ ∧ ∃ (vs ws : List Value) (ns' ms' : List Int), rest = vs.zip ws ∧ IntsAre vs ns' ∧ IntsAre ws ms' ∧ lexI ns' ms' = lexI ns ms ∧ ns.length + ms'.length = ms.length + ns'.length) _
    case turn =>
      rintro ⟨y, x⟩ rest b s' ⟨hb', rfl, vs, ws, ns', ms', hz, hv, hw, hx, hc⟩
      cases hv with
      | nil => rw [List.zip_nil_left] at hz; cases hz
      | cons a t hv =>
        cases hw with
        | nil => rw [List.zip_nil_right] at hz; cases hz
        | cons c u hw =>
          rw [List.zip_cons_cons] at hz
          injection hz with h1 h2
          injection h1 with h3 h4
          subst h3 h4
          refine wpAny_bind (wpAny_eqBool_int ?_)
          rw [lexI] at hx
          by_cases e : a = c
          · rw [show (a == c) = true from by simp [e]]
            rw [if_pos e] at hx
            wp_walk
            exact ⟨rfl, rfl, _, _, _, _, h2, hv, hw, hx, by simp only [List.length_cons] at hc; omega⟩
          · rw [show (a == c) = false from by simp [e]]
            rw [if_neg e] at hx
            have hri : ∀ (E : Value → Shared → Prop) (Q : Value → Shared → Prop), (Q (.bool (decide (a < c))) ⟨hp, g, d, tk, os⟩) → wpAny (model prog w) A.in1 (richCompare .Lt (.int a t) (.int c u)) Q E ⟨hp, g, d, tk, os⟩ := fun E Q q => PyProof.Rows.lt_int q
            wp_walk using hri
            rw [hx]
            exact ⟨_, rfl, h⟩
    case fin =>
      rintro ⟨b1, b2⟩ s' ⟨hb', rfl, vs, ws, ns', ms', hz, hv, hw, hx, hc⟩
      simp only at hb'
      subst hb'
      have l1 := intsAre_len hi
      have l2 := intsAre_len hj
      have e : lexI ns ms = decide (items.size < items2.size) := by
        rw [← hx]
        cases hv with
        | nil =>
          cases hw with
          | nil => simp at hc; rw [lexI]; symm; refine decide_eq_false ?_; rw [← Array.length_toList, ← Array.length_toList, l1, l2]; omega
          | cons c u hw => rw [lexI]; symm; refine decide_eq_true ?_; simp only [List.length_cons, List.length_nil] at hc; rw [← Array.length_toList, ← Array.length_toList, l1, l2]; omega
        | cons a t hv =>
          cases hw with
          | nil => rw [lexI]; symm; refine decide_eq_false ?_; simp only [List.length_cons, List.length_nil] at hc; rw [← Array.length_toList, ← Array.length_toList, l1, l2]; omega
          | cons c u hw => rw [List.zip_cons_cons] at hz; cases hz
      rw [e] at h
      wp_walk
      exact ⟨_, rfl, h⟩
    case h =>
      exact ⟨rfl, rfl, items.toList, items2.toList, ns, ms, rfl, hi, hj, rfl, by omega⟩
section
variable {prog : Program} {w : World} {A : Around} {E : Value → Shared → Prop} {s : Shared}
theorem IsT.ints {h : Heap} {l : List Int} {a : Addr} (x : IsT prog w h l a) : ∃ o its n, h.get? a = some o ∧ o.cls = .type "tuple" ∧ o.data = .seq its n ∧ IntsAre its.toList l := by
  obtain ⟨o, its, n, h1, h2, h3, h4⟩ := x
  refine ⟨o, its, n, h1, h2, h3, ?_⟩
  generalize its.toList = vs at h4
  clear h3
  induction h4 with
  | nil => exact .nil
  | cons q _ ih => obtain ⟨t, rfl⟩ := int_of_is q; exact .cons _ _ ih
theorem lt_tup {l m : List Int} {a b : Addr} {Q : Value → Shared → Prop} (hl : IsT prog w s.heap l a) (hb : IsT prog w s.heap m b) (hu : A.units < cLine) (h : Q (.bool (lexI l m)) s) : wpAny (model prog w) A (compareOp .Lt (.ref a) (.ref b)) Q E s := by
  obtain ⟨⟨c1, d1, t1, s1⟩, i1, n, g1, k1, e1, r1⟩ := hl.ints
  obtain ⟨⟨c2, d2, t2, s2⟩, i2, n2, g2, k2, e2, r2⟩ := hb.ints
  simp only at k1 e1 k2 e2
  subst k1 e1 k2 e2
  exact richCompare_meets_room (op := .Lt) ⟨_, g1, rfl⟩ ⟨_, g2, rfl⟩ PySem.F.slot_tuple_lt PySem.F.entry_tuple_lt (PySem.F.args_tuple_lt_2 _ _) (tuple_lt_is a b i1 i2 n n2 d1 d2 s1 s2 l m r1 r2)
    ⟨g1, g2, show Value.bool (lexI l m) ≠ Value.notImplemented ∧ Q (.bool (lexI l m)) s from ⟨(fun x => nomatch x), h⟩⟩ hu
theorem mem_ix {ls : List (List (List Int))} (nd : (ls.map fun k => k.headD []).Nodup) {i j : Nat} (hi : i < ls.length) (hj : j < ls.length) (e : ls[i].headD [] = ls[j].headD []) : i = j := by
  have pw := List.pairwise_iff_getElem.mp nd
  rcases Nat.lt_trichotomy i j with h | h | h
  · exact absurd (by simpa using e) (pw i j (by simpa using hi) (by simpa using hj) h)
  · exact h
  · exact absurd (by simpa using e.symm) (pw j i (by simpa using hj) (by simpa using hi) h)
open L3 in
/-- pairs of tuples of ints with unlike firsts -/
theorem rkd_nest {ls : List (List (List Int))} {vs : List Value} (hu : A.units + 3 < cLine) (hk : ∀ k ∈ ls, ∃ l m, k = [l, m]) (nd : (ls.map fun k => k.headD []).Nodup) (p : Pts (IsKey2 prog w s.heap) ls vs) : Rkd prog w A s vs (tuples' false) (rnk (ls.map fun k => k.headD [])) where
  kd := fun h2 h' k E Q q => by
    have fs : ∀ {ls : List (List (List Int))} {vs : List Value}, (∀ k ∈ ls, ∃ l m, k = [l, m]) → Pts (IsKey2 prog w s.heap) ls vs → ∃ fs : List Value, KatTups h' vs fs ∧ fs.length = vs.length ∧ ∀ f ∈ fs, ∃ a l, f = .ref a ∧ IsT prog w s.heap l a := by
      intro ls vs
      induction ls generalizing vs with
      | nil => intro _ p; cases vs with | nil => exact ⟨[], trivial, rfl, by simp⟩ | cons _ _ => exact p.elim
      | cons l ls ih =>
        intro hl p
        cases vs with
        | nil => exact p.elim
        | cons v vs =>
          obtain ⟨⟨a, rfl, o, its, m, h1, h2, h3, h4⟩, p⟩ := p
          obtain ⟨fs, f1, f2, f3⟩ := ih (fun l' h => hl l' (List.mem_cons_of_mem _ h)) p
          obtain ⟨x, y, rfl⟩ := hl l List.mem_cons_self
          cases hi : its.toList with
          | nil => rw [hi] at h4; cases h4
          | cons f r =>
            rw [hi] at h4
            cases h4 with
            | cons q1 q2 => exact ⟨_ :: fs, KatTups.cons (k _ _ h1) h2 h3 (by rw [← Array.getElem?_toList, hi]; rfl) f1, by simp [f2], fun g hg => (List.mem_cons.mp hg).elim (fun e => ⟨_, _, e, q1⟩) (f3 g)⟩
    obtain ⟨fs, f1, f2, f3⟩ := fs hk p
    refine kat_kind (s := { s with heap := h' }) (T := .type "tuple") f1 (by omega) (fun v hv => ?_) (by decide) (by exact q)
    obtain ⟨a, l, rfl, o, its, m, h1, h2, _⟩ := f3 v hv
    rw [← h2]
    exact (Looks.ld (k _ _ h1)).andThen .now
  lt := fun h' k i j C hi hj c => by
    have e := p.len
    have hi' : i < ls.length := by omega
    have hj' : j < ls.length := by omega
    obtain ⟨a, ea, o, its, m, h1, h2, h3, h4⟩ := p.get hi'
    obtain ⟨a', ea', o', its', m', h1', h2', h3', h4'⟩ := p.get hj'
    obtain ⟨x, y, exy⟩ := hk _ (List.getElem_mem hi')
    obtain ⟨x', y', exy'⟩ := hk _ (List.getElem_mem hj')
    unfold kas_ask
    rw [ea, ea']
    have gi : (ls.map fun k => k.headD []).getD i [] = x := by simp [hi', exy]
    have gj : (ls.map fun k => k.headD []).getD j [] = x' := by simp [hj', exy']
    rw [rnk_lt (by simpa using hi') (by simpa using hj'), gi, gj] at c
    have ix := mem_ix nd hi' hj'
    rw [exy] at h4 ix
    rw [exy'] at h4' ix
    cases ht : its.toList with
    | nil => rw [ht] at h4; cases h4
    | cons f r =>
      cases ht' : its'.toList with
      | nil => rw [ht'] at h4'; cases h4'
      | cons f' r' =>
        rw [ht] at h4
        rw [ht'] at h4'
        cases h4 with
        | cons k1 r1 =>
          cases h4' with
          | cons k1' r1' =>
            cases r1 with
            | cons k2 r2 =>
              cases r1' with
              | cons k2' r2' =>
                cases r2
                cases r2'
                have up : ∀ {l : List Int} {b : Addr}, IsT prog w s.heap l b → IsT prog w h' l b := fun z => z.mono fun o q => k _ o q
                refine kat_lt (s := { s with heap := h' }) (k _ _ h1) h3 (k _ _ h1') h3' ?_
                rw [ht, ht']
                refine kat_cons (wpAny_eqBool_tuple (s := { s with heap := h' }) (by omega) (up k1) (up k1') ?_)
                by_cases ex : x = x'
                · have eij := ix ex
                  subst eij
                  rw [exy] at exy'
                  cases exy'
                  rw [decide_eq_true rfl]
                  refine kat_yes (kat_cons (wpAny_eqBool_tuple (s := { s with heap := h' }) (by omega) (up k2) (up k2') ?_))
                  rw [decide_eq_true rfl]
                  refine kat_yes (kat_nil ?_)
                  rw [lex_irrefl] at c
                  have z1 : its.size = 2 := by rw [← Array.length_toList, ht]; rfl
                  have z2 : its'.size = 2 := by rw [← Array.length_toList, ht']; rfl
                  rw [z1, z2]
                  exact c
                · rw [decide_eq_false ex]
                  exact kat_no (kat_one _ _ (lt_tup (s := { s with heap := h' }) (up k1) (up k1') (by omega) c))
end
end L2

/-! sorted over trees: of a list of tuples of ints, of pairs of such tuples, of a dict. -/
namespace L3
open PySem PySem.Spec PyProof.Rows PySem.W L2
/-- keys whose order is told: tuples of ints of one length; pairs of tuples of ints with unlike firsts -/
def KyOk (b : Bool) (ks : List (List (List Int))) : Prop := ks.length < 64 ∧ if b = true then (∀ k ∈ ks, ∃ l m, k = [l, m]) ∧ (ks.map fun k => k.headD []).Nodup else ∃ n, 1 ≤ n ∧ ∀ k ∈ ks, ∃ l, k = [l] ∧ l.length = n
def Ahead (k k' : List (List Int)) : Prop := lexI (k'.headD []) (k.headD []) = false
section
variable {P : Program} {w : World} {A : Around} {s : Shared} {H : Hp} {b : Bool}
theorem paired_len {α : Type} {p : α → Addr → Prop} : ∀ {ks : List α} {as : List Addr}, Paired p ks as → as.length = ks.length
  | [], [], .nil => rfl
  | _ :: _, _ :: _, .cons _ q => by simp [paired_len q]
theorem pts_of {α : Type} {p p' : α → Addr → Prop} (f : ∀ k a, p k a → p' k a) : ∀ {ks : List α} {as : List Addr}, Paired p ks as → Pts p' ks (as.map Value.ref)
  | [], [], .nil => trivial
  | _ :: _, _ :: _, .cons x q => ⟨⟨_, rfl, f _ _ x⟩, pts_of f q⟩
theorem pts_flat (ok : HOk P w H s.heap) : ∀ {ks : List (List (List Int))} {as : List Addr}, Paired (KeyAt H false) ks as → Pts (IsT P w s.heap) (ks.map fun k => k.headD []) (as.map Value.ref)
  | [], [], .nil => trivial
  | _ :: _, _ :: _, .cons ⟨l, e, x⟩ q => ⟨⟨_, rfl, by subst e; exact flat_at ok x⟩, pts_flat ok q⟩
theorem rkd_keys (hu : A.units + 3 < cLine) (ok : HOk P w H s.heap) {ks : List (List (List Int))} {as : List Addr} (kk : KyOk b ks) (p : Paired (KeyAt H b) ks as) : Rkd P w A s (as.map Value.ref) (tuples' (!b)) (rnk (ks.map fun k => k.headD [])) := by
  cases b with
  | false =>
    obtain ⟨_, h⟩ := kk
    rw [if_neg (by simp)] at h
    obtain ⟨n, hn, hk⟩ := h
    refine rkd_flat hn (fun l hl => ?_) (pts_flat ok p)
    obtain ⟨k, m, rfl⟩ := List.mem_map.mp hl
    obtain ⟨l, rfl, h⟩ := hk k m
    exact h
  | true =>
    obtain ⟨_, h⟩ := kk
    rw [if_pos rfl] at h
    exact rkd_nest hu h.1 h.2 (pts_of (fun k a x => KeyAt.is (b := true) x ok) p)
theorem perm_map_get {α : Type} (l : List α) (z : α) {p : Array Nat} (pp : PP l.length p) : (p.toList.map fun i => l.getD i z).Perm l := by
  have h1 : p.toList.Perm (List.range l.length) := by have := pp.toList; simpa using this
  refine (h1.map _).trans (List.Perm.of_eq ?_)
  apply List.ext_getElem
  · simp
  · intro i a c; simp [c]
theorem inc_pair {l : List (List (List Int))} {p : Array Nat} (pp : PP l.length p) (ic : Inc (rnk (l.map fun k => k.headD [])) p l.length) : (p.toList.map fun i => l.getD i []).Pairwise Ahead := by
  rw [List.pairwise_iff_getElem]
  intro i j hi hj hij
  have sz := pp.sz
  rw [List.length_map, Array.length_toList] at hi hj
  have h := ic i j (Nat.le_of_lt hij) (by omega)
  have gi := pp.below (k := i) (by omega)
  have gj := pp.below (k := j) (by omega)
  have ei : p.getD i 0 = p[i] := by simp [Array.getD, hi]
  have ej : p.getD j 0 = p[j] := by simp [Array.getD, hj]
  have h2 := rnk_lt (ks := l.map fun k => k.headD []) (i := p.getD j 0) (j := p.getD i 0) (by simpa using gj) (by simpa using gi)
  rw [decide_eq_false (by unfold rk at h; omega)] at h2
  rw [ei] at gi h2
  rw [ej] at gj h2
  simp only [List.getElem_map, Array.getElem_toList, Ahead]
  simpa [gi, gj] using h2.symm
end
section
variable {X : Cx}
theorem vals_refs : ∀ {as : List Addr} {us : List Value}, Vals (as.map V.ref) us → us = as.map Value.ref
  | [], _, r => by rw [List.map_nil] at r; cases r; rfl
  | a :: as, _, r => by
    rw [List.map_cons] at r
    cases r with
    | cons h t => cases (show _ = Value.ref a from h); rw [vals_refs t]; rfl
theorem refs_vals : ∀ as : List Addr, Vals (as.map V.ref) (as.map Value.ref)
  | [] => .nil
  | a :: as => .cons rfl (refs_vals as)
theorem picked_refs (as : List Addr) {p : Array Nat} (pp : PP as.length p) : picked (as.map Value.ref) p = (p.toList.map fun i => as.getD i 0).map Value.ref := by
  unfold picked
  rw [List.map_map]
  refine List.map_congr_left fun i hi => ?_
  have hi : i < as.length := by
    have := pp.toList.mem_iff.mp hi
    simpa using this
  simp [hi]
theorem sort_tail {pins : List (Addr × Obj)} {σ : L2.St} {H : Hp} {s : Shared} {b : Bool} {as : List Addr} {ks : List (List (List Int))} {v : Value} {Q : VK} (hu : X.A.units + 64 < cLine) (I : Inv X pins σ H s) (kk : KyOk b ks) (p : Paired (KeyAt H b) ks as)
    (col : ∀ (E' : Value → Shared → Prop) (Q' : List Value → Shared → Prop), (∀ h' : Heap, s.heap.objs.size ≤ h'.objs.size → (∀ b o, s.heap.get? b = some o → h'.get? b = some o) → Q' (as.map Value.ref) { s with heap := h' }) → wpAny (model X.prog X.w) X.A.in1 (collect v) Q' E' s)
    (q : ∀ p : Array Nat, PP as.length p → (p.toList.map fun i => ks.getD i []).Perm ks → (p.toList.map fun i => ks.getD i []).Pairwise Ahead → ∀ l, H l = none → Q (.ref l) (upd H l (.lst ((p.toList.map fun i => as.getD i 0).map V.ref)))) :
    wpAny (model X.prog X.w) X.A (call (.builtin "sorted") [v]) (EP X pins σ Q) X.xe s := by
  have el := paired_len p
  have l64 := kk.1
  refine sorted_got (vs := as.map Value.ref) (by rw [List.length_map]; omega) col (rkd_keys (show X.A.in1.in1.units + 3 < cLine from ?_) I.hok kk p) fun pm h' l e pp ic lo kp he => ?_
  · show X.A.units + 1 + 1 + 3 < cLine
    omega
  · rw [List.length_map] at pp ic
    rw [picked_refs as pp] at he
    have pk : PP ks.length pm := by rw [← el]; exact pp
    refine ⟨.ref l, _, I.laid (t' := s.toks) kp lo (show ObjOk X.prog X.w _ _ _ (.lst ((pm.toList.map fun i => as.getD i 0).map V.ref)) from ⟨by rw [List.length_map, List.length_map, Array.length_toList, pp.sz, sizeLine_eq]; omega, _, e, refs_vals _, he⟩), rfl, q pm pp (perm_map_get ks [] pk) (inc_pair pk (by rw [← el]; exact ic)) l (I.hok.fresh lo)⟩
theorem call_sortKL (hu : X.A.units + 64 < cLine) (b : Bool) : CallR X (.builtin "sorted") (fun xs H Q => ∃ (a : Addr) (ks : List (List (List Int))) (as : List Addr), xs = [.ref a] ∧ H a = some (.lst (as.map V.ref)) ∧ Paired (KeyAt H b) ks as ∧ KyOk b ks ∧
    ∀ p : Array Nat, PP as.length p → (p.toList.map fun i => ks.getD i []).Perm ks → (p.toList.map fun i => ks.getD i []).Pairwise Ahead → ∀ l, H l = none → Q (.ref l) (upd H l (.lst ((p.toList.map fun i => as.getD i 0).map V.ref)))) := by
  intro pins s σ H xs us Q I r h
  obtain ⟨a, ks, as, rfl, ha, pr, kk, q⟩ := h
  obtain ⟨u, rfl, rx⟩ := vals1 r
  cases rx
  obtain ⟨its, rv, pl, hz⟩ := I.list (SqL.of ha)
  have e := vals_refs rv
  subst e
  have k64 := kk.1
  have el := paired_len pr
  exact sort_tail hu I kk pr (fun E' Q' hq => collect_lst pl.isList (by rw [List.length_map, sizeLine_eq]; omega) hq) q
end
section
variable {X : Cx} {e : Expr} {u : UE} {p pos : Pos}
def uSortK (b : Bool) (u : UE) : UL := fun ρ k => u ρ fun x => ∃ ks, x = .lst (ks.map (keyD b)) ∧ KyOk b ks ∧ ∀ ks', List.Perm ks' ks → List.Pairwise Ahead ks' → k (ks'.map (keyD b))
theorem ky_one {b : Bool} {ks : List (List (List Int))} (h : KyOk b ks) : b = false → ∀ k ∈ ks, ∃ l, k = [l] := fun e k m => by
  subst e
  have h := h.2
  rw [if_neg (by simp)] at h
  obtain ⟨n, _, h⟩ := h
  obtain ⟨l, e, _⟩ := h k m
  exact ⟨l, e⟩
theorem reps_pick {K : PySem.W.Frag} {B : Hp} {b : Bool} {ks : List (List (List Int))} {as : List Addr} (r : Reps K B (as.map V.ref) (ks.map (keyD b))) : ∀ {l : List Nat}, (∀ i ∈ l, i < as.length) → Reps K B ((l.map fun i => as.getD i 0).map V.ref) ((l.map fun i => ks.getD i []).map (keyD b))
  | [], _ => .nil
  | i :: l, h => by
    have hi := h i List.mem_cons_self
    have el : as.length = ks.length := by have := r.length; simpa using this
    obtain ⟨v, h1, h2⟩ := r.get (i := i) (d := keyD b ks[i]) (by simp [show i < ks.length by omega])
    have : v = V.ref as[i] := by simpa [hi] using h1.symm
    subst this
    refine .cons ?_ (reps_pick r fun j hj => h j (List.mem_cons_of_mem _ hj))
    simpa [hi, show i < ks.length by omega] using h2
theorem reps_refs {K : PySem.W.Frag} {B : Hp} {b : Bool} : ∀ {ks : List (List (List Int))} {vs : List V}, Reps K B vs (ks.map (keyD b)) → ∃ as : List Addr, vs = as.map V.ref
  | [], _, r => by cases r; exact ⟨[], rfl⟩
  | k :: ks, _, r => by
    rw [List.map_cons] at r
    cases r with
    | cons h t =>
      obtain ⟨c, rfl⟩ := key_ref h
      obtain ⟨as, rfl⟩ := reps_refs t
      exact ⟨c :: as, rfl⟩
theorem pp_below {n : Nat} {p : Array Nat} (pp : PP n p) : ∀ i ∈ p.toList, i < n := fun i hi => by
  have := pp.toList.mem_iff.mp hi
  simpa using this
theorem o_sortK {b : Bool} (hu : X.A.units + 64 < cLine) (ha : PE3 X e u) (hg : Gl X "sorted") (hm : X.mg "sorted" = none) (hs : starEach [e] X.env = (false, eval e X.env) :: starEach [] X.env := by rfl) : PO3 X (.Call (.Name "sorted" p) [e] [] pos) (uSortK b u) := by
  obtain ⟨_, h1, r1⟩ := ha
  refine ⟨_, pe_callB (call_sortKL hu b) hg hm (by decide +kernel) (pa_cons h1 pa_nil hs) (by decide) (by decide) hs rfl, fun ρ k h R W B H σ Q e q => ?_⟩
  refine r1 ρ _ h R W B H σ _ e fun d v B1 H1 z1 e1 g1 s1 => ?_
  obtain ⟨ks, rfl, kk, z⟩ := z1
  obtain ⟨a, vs, rfl, ha, rs⟩ := s1.lstV
  obtain ⟨as, rfl⟩ := reps_refs rs
  refine ⟨a, ks, as, rfl, e1.bh _ _ ha, keys_of e1.bh (ky_one kk) rs, kk, fun pm pp pr pw l hl => ?_⟩
  have rp := reps_pick rs (pp_below pp)
  obtain ⟨f1, f2, f3, f4, f5⟩ := e1.newO hl rp
  exact q _ l _ B1 _ (z _ pr pw) f1 g1 f2 f3 f4 rp f5
end
end L3

/-! for k, v in d.items(), whatever the keys: one step, the end. -/
namespace L3
open PySem L2
section
variable {prog : Program} {w : World} {A : Around} {E : Value → Shared → Prop} {s : Shared} {d it : Addr} {i ep : Nat} {es : Array DictEntry} {ok ov : Value}
/-- one step of the walk: the next pair, a new tuple; or the end -/
theorem istep_raw {Q : Option Value → Shared → Prop} (hh : A.handled = none) (hit : IsItemIter s.heap it d i es.size ep ok ov) (hm : RawD s.heap d es ep)
    (more : ∀ e h', es[i]? = some e → IsItemIterOut h' it d (i + 1) es.size ep e.key e.val s.heap.objs.size → h'.get? s.heap.objs.size = some { cls := .type "tuple", data := .seq #[e.key, e.val] } → (∀ b o, b ≠ it → s.heap.get? b = some o → h'.get? b = some o) → Q (some (.ref s.heap.objs.size)) { s with heap := h' })
    (done : ∀ h', es[i]? = none → Heap.ExtBut it s.heap h' → Q none { s with heap := h' }) : wpAny (model prog w) A (pyNext (.ref it)) Q E s := by
  obtain ⟨hp, g, dr, tk, os⟩ := s
  have ty : Shared.TypeIs ⟨hp, g, dr, tk, os⟩ (.ref it) "dict_itemiterator" := ⟨_, hit, rfl⟩
  obtain ⟨o, ho, hc, he⟩ := hm
  have own : Builtin.Dict_items.ownsTuple "dict_itemiterator" = true := by decide
  have n0 : ¬ ((i : Int) < 0) := by omega
  have none_ : ¬ (Value.ref d == Value.none) = true := Bool.false_ne_true
  unfold pyNext
  refine wpAny_bind (wpAny_attempt (wpAny_callSpecial?_slot (name := "__next__") ty F.slot_dict_itemiterator_next (wpAny_call_entry F.slot_dict_itemiterator_next ty F.entry_dict_itemiterator_next ?_ (F.args_dict_itemiterator_next_1 _))))
  refine wpAny_bind (wpAny_pure (wpAny_bind (wpAny_bind ?_)))
  first | refine wpAny_bind (wpAny_typeNameOfWhole_itemiter ty (wpAny_pure (wpAny_bind (wpAny_fieldsOf hit rfl ?_)))) | refine wpAny_bind (wpAny_typeNameOf_itemiter ty (wpAny_pure (wpAny_bind (wpAny_fieldsOf hit rfl ?_))))
  simp only [own, if_true]
  show wpAny _ _ (if (Value.ref d == Value.none) = true then _ else _) _ _ ⟨hp, g, dr, tk, os⟩
  rw [if_neg none_]
  refine wpAny_bind (wpAny_pure (wpAny_bind (wpAny_dictEntries ho he ?_)))
  rw [if_neg (by simp)]
  refine wpAny_bind (wpAny_pure (wpAny_bind (wpAny_dictEpoch ho he ?_)))
  rw [if_neg (by simp)]
  refine wpAny_pure ?_
  simp only [n0, if_false, Int.toNat_natCast]
  cases q : es[i]? with
  | some e =>
    dsimp only
    refine wpAny_bind ?_
    first | refine wpAny_bind (wpAny_typeNameOfWhole_itemiter ty (wpAny_pure (wpAny_bind (wpAny_isOneOf_itemiter ty ?_)))) | refine wpAny_bind (wpAny_typeNameOf_itemiter ty (wpAny_pure (wpAny_bind (wpAny_isOneOf_itemiter ty ?_))))
    show wpAny _ _ (setField (.ref it) 3 (rawInt ((i : Int) + 1)) >>= _) _ _ ⟨hp, g, dr, tk, os⟩
    refine wpAny_bind (wpAny_setField_rec hit (by simp) fun h1 a1 (b1 : Heap.SameBut it hp h1) => ?_)
    replace a1 : IsItemIter h1 it d (i + 1) es.size ep ok ov := by
      unfold IsItemIter
      rw [show ((i + 1 : Nat) : Int) = (i : Int) + 1 by omega]
      simpa [rawInt] using a1
    have ty1 : Shared.TypeIs ⟨h1, g, dr, tk, os⟩ (.ref it) "dict_itemiterator" := ⟨_, a1, rfl⟩
    refine wpAny_bind (wpAny_holding (wpAny_bind (wpAny_isOneOf_itemiter ty1 (wpAny_bind (wpAny_isOneOf_itemiter ty1 ?_)))))
    show wpAny _ _ (Builtin.Dict_items.pairFromOwner (.ref it) 6 e.key e.val) _ _ ⟨h1, g, dr, tk, os⟩
    unfold Builtin.Dict_items.pairFromOwner
    refine wpAny_bind (wpAny_newTuple ?_)
    have z1 : h1.objs.size = hp.objs.size := b1.1
    have li : it < hp.objs.size := Heap.lt_size hit
    let T : Obj := { cls := .type "tuple", data := .seq #[e.key, e.val] }
    have a2 : IsItemIter (h1.push T) it d (i + 1) es.size ep ok ov := Heap.get?_push_of_some _ a1
    have t2 : (h1.push T).get? hp.objs.size = some T := by rw [← z1]; exact Heap.get?_push_size _ rfl
    have k2 : ∀ b o, b ≠ it → hp.get? b = some o → (h1.push T).get? b = some o := fun b o n x => Heap.get?_push_of_some _ (b1.extBut b o n x)
    show wpAny _ _ (Builtin.Dict_items.ownedTupleIsFree (.ref it) >>= _) _ _ ⟨h1.push T, g, dr, tk, os⟩
    rw [z1]
    generalize h1.push T = h2 at a2 t2 k2
    refine wpAny_bind ?_
    unfold Builtin.Dict_items.ownedTupleIsFree
    refine wpAny_bind (wpAny_field a2 rfl (x := .none) rfl (wpAny_pure ?_))
    simp only [if_true]
    refine wpAny_bind (wpAny_field a2 rfl (x := ok) rfl (wpAny_bind (wpAny_field a2 rfl (x := ov) rfl (wpAny_bind (wpAny_setField_rec a2 (by simp) fun h3 a3 (b3 : Heap.SameBut it h2 h3) => ?_)))))
    replace a3 : IsItemIter h3 it d (i + 1) es.size ep e.key ov := a3
    refine wpAny_bind (wpAny_setField_rec a3 (by simp) fun h4 a4 (b4 : Heap.SameBut it h3 h4) => ?_)
    replace a4 : IsItemIter h4 it d (i + 1) es.size ep e.key e.val := a4
    refine wpAny_bind (wpAny_setField_rec a4 (by simp) fun h5 a5 (b5 : Heap.SameBut it h4 h5) => ?_)
    replace a5 : IsItemIterOut h5 it d (i + 1) es.size ep e.key e.val hp.objs.size := a5
    refine wpAny_bind (wpAny_setField_rec a5 (by simp) fun h6 a6 (b6 : Heap.SameBut it h5 h6) => ?_)
    replace a6 : IsItemIterOut h6 it d (i + 1) es.size ep e.key e.val hp.objs.size := a6
    have up : ∀ b o, b ≠ it → h2.get? b = some o → h6.get? b = some o := fun b o n x => b6.extBut b o n (b5.extBut b o n (b4.extBut b o n (b3.extBut b o n x)))
    exact wpAny_bind (wpAny_letGo (wpAny_pure (wpAny_pure ⟨_, rfl, wpAny_pure (more e h6 q a6 (up _ _ (Nat.ne_of_gt li) t2) fun b o n x => up b o n (k2 b o n x))⟩)))
  | none =>
    refine wpAny_bind ?_
    first | refine wpAny_bind (wpAny_typeNameOfWhole_itemiter ty (wpAny_pure ?_)) | refine wpAny_bind (wpAny_typeNameOf_itemiter ty (wpAny_pure ?_))
    show wpAny _ _ (setField (.ref it) 2 .none >>= _) _ _ ⟨hp, g, dr, tk, os⟩
    refine wpAny_bind (wpAny_setField hit rfl (by simp) ?_)
    show wpAny _ _ (newExc (.type "StopIteration") [] >>= _) _ _ _
    unfold newExc newTuple
    refine wpAny_bind (wpAny_bind (wpAny_newObj_type (wpAny_bind (m := firstArgMember _ _) (wpAny_of_eq (a := Value.none) (by first | rfl | (unfold firstArgMember; rfl)) (wpAny_newObj_type ?_ (by size_fits)))) (by size_fits)))
    unfold raiseNew
    refine wpAny_bind (wpAny_handled ?_)
    rw [show A.in1.handled = none from hh]
    refine wpAny_bind (wpAny_pure (wpAny_throw ?_))
    refine wpAny_bind (wpAny_isInstance (T := "StopIteration") (b := true) (by exact ⟨_, Heap.get?_push_size _ rfl, rfl⟩) isSubtype_stop ?_)
    exact wpAny_pure (done _ q (((Heap.SameBut.update ..).extBut.push _).push _))
theorem iiter_raw {v : Addr} {Q : Value → Shared → Prop} (hv : s.heap.IsItemsView v d) (hm : RawD s.heap d es ep)
    (hQ : Q (.ref s.heap.objs.size) { s with heap := s.heap.push { cls := .type "dict_itemiterator", data := .fields #[.none, .bool false, .ref d, .int 0 0, .int es.size 0, .int ep 0, .none, .none] } }) : wpAny (model prog w) A (pyIter (.ref v)) Q E s := by
  have tyv := hv.typeIs
  obtain ⟨p, hp, cp, dp⟩ := hv
  obtain ⟨o, ho, hc, he⟩ := hm
  have own : Builtin.Dict_items.ownsTuple "dict_itemiterator" = true := by decide
  refine wpAny_pyIter_slot tyv F.slot_dict_items_iter (wpAny_call_entry F.slot_dict_items_iter tyv F.entry_dict_items_iter ?_ (F.args_dict_items_iter_1 _))
  unfold Builtin.«dict_items.__iter__»
  refine wpAny_bind (wpAny_pure (wpAny_bind ?_))
  unfold Builtin.Dict_items.dictOf
  refine wpAny_bind (wpAny_field hp dp (x := .ref d) rfl (wpAny_pure (wpAny_bind ?_)))
  unfold Builtin.Dict_items.newIterator
  refine wpAny_bind (wpAny_dictEntries ho he (wpAny_bind (wpAny_dictEpoch ho he ?_)))
  simp only [own, if_true]
  refine wpAny_newObj_type (wpAny_pure ⟨_, rfl, "dict_itemiterator", _, ⟨_, Heap.get?_push_size _ rfl, rfl⟩, F.slot_dict_itemiterator_next.lookup, ?_⟩) (by simp only [sizeOk, Builtin.Dict_items.ownedTupleFields, List.size_toArray, List.length_append, List.length_cons, List.length_nil, sizeLine_eq]; omega)
  simpa [rawInt, Builtin.Dict_items.ownedTupleFields] using hQ
theorem meets_items (d : Addr) (hd : (d == sysModules) = false) :
    MeetsIn prog w (Builtin.«dict.items» ⟨[.ref d], []⟩) (fun _ R s => (∃ es ep, RawD s.heap d es ep) ∧ R (.ok (.ret (.ref s.heap.objs.size))) { s with heap := s.heap.push { cls := .type "dict_items", data := .fields #[.ref d] } }) :=
  .of_wp fun A R s ⟨⟨es, ep, hm⟩, h⟩ => by
    obtain ⟨o, ho, hc, he⟩ := hm
    have ty : s.TypeIs (.ref d) "dict" := ⟨o, ho, hc.1⟩
    have no : ¬ (d == sysModules) = true := fun z => by rw [hd] at z; cases z
    unfold Builtin.«dict.items» Builtin.Dict.noArgs
    refine wpAny_bind (wpAny_bind (wpAny_notOrdered_dict ty (show wpAny _ _ (pure d) _ _ s from wpAny_pure ?_)))
    show wpAny _ _ (Builtin.Dict.showsAll d >>= _) _ _ s
    unfold Builtin.Dict.showsAll
    rw [if_neg no]
    exact wpAny_bind (wpAny_pure (wpAny_bind (wpAny_newObj_type (wpAny_pure ⟨_, rfl, h⟩))))
end
end L3

/-! Comprehensions over what hands out a new tuple at each turn: a dict's items, enumerate. -/
namespace L2
open PySem PySem.Spec PyProof.Rows PySem.W L3
/-- pairs of a dict, each a new tuple -/
def Itp (b : Bool) (a : Addr) (ep : Nat) (ks : List (List (List Int))) (as : List Addr) (vs : List V) : It where
  go := fun i H => H a = some (DicO b a ep ks as vs) ∧ i < ks.length
  yld := fun i H x H' => ∃ p c y, H p = none ∧ x = .ref p ∧ H' = upd H p (.tup [.ref c, y]) ∧ as[i]? = some c ∧ vs[i]? = some y
  stop := fun i H => H a = some (DicO b a ep ks as vs) ∧ ks.length ≤ i
section
variable {P : Program} {w : World} {K : PySem.W.Frag} {b : Bool} {a : Addr} {ep : Nat} {ks : List (List (List Int))} {as : List Addr} {vs : List V} {elts : List Expr} {k : Nat} {pos : Pos}
theorem entry_item_iter : entryFor table "dict_itemiterator.__iter__" = some Builtin.«dict_keyiterator.__iter__» := entryFor_alias (id' := "dict_keyiterator.__iter__") (by kernel_rfl) rfl (by decide +kernel) (by kernel_rfl)
theorem turn_items (it : Addr) : Turn P w K (.Tuple elts k pos) (Itp b a ep ks as vs) [it] it (fun i h => ∃ x y, IsItemIter h it a i ks.length ep x y) where
  mem := by simp
  obj := fun i h st c hc => by
    have e : c = it := by simpa using hc
    subst e
    obtain ⟨x, y, st⟩ := st
    exact ⟨_, st, fun v z => by cases z⟩
  keep := fun i h h' st kp => by
    obtain ⟨x, y, st⟩ := st
    exact ⟨x, y, kp it (by simp) _ st⟩
  item := by
    intro X hP hw hK hc i pins s σ H E I hf st hg
    subst hP hw hK
    obtain ⟨hq, hi⟩ := hg
    obtain ⟨x0, y0, st⟩ := st
    obtain ⟨us, es, rd, el, l1, l2, l3, rv, _⟩ := raw_of I.hok hq
    obtain ⟨k', c, u, hc1, hu1, he⟩ := ent_nth (b := b) l1 l2 hi
    obtain ⟨y, hy, ry⟩ : ∃ y, vs[i]? = some y ∧ RelV y u := by
      have lt : i < vs.length := by rw [rv.length]; omega
      obtain ⟨u', hu', r'⟩ := rv.get (List.getElem?_eq_getElem lt)
      rw [hu1] at hu'; cases hu'
      exact ⟨_, List.getElem?_eq_getElem lt, r'⟩
    have fi := hf it (by simp)
    have ilt : it < s.heap.objs.size := Heap.lt_size st
    have Ti : s.heap.objs.size ≠ it := Nat.ne_of_gt ilt
    refine istep_raw (I.ok.hd hc) (by rw [l3]; exact st) rd (fun e h1 q out ht kp => ⟨_, rfl, wpAny_letOwnedTupleGo_items out fun h2 he2 sb => ?_⟩) (fun h1 q _ => ?_)
    · rw [← Array.getElem?_toList, el, he] at q
      cases q
      rw [l3] at he2
      have I0 : Inv X pins σ (upd H s.heap.objs.size (.tup [.ref c, y])) { s with heap := s.heap.push { cls := .type "tuple", data := .seq #[.ref c, u] } } :=
        I.laid (t' := s.toks) (fun _ _ q => Heap.get?_push_of_some _ q) (Nat.le_refl _) ⟨by show 2 ≤ sizeLine; decide, [.ref c, u], .cons rfl (.cons ry .nil), ⟨_, Heap.get?_push_size _ rfl, rfl, _, rfl⟩⟩
      have f' : FpOk X pins (upd H s.heap.objs.size (.tup [.ref c, y])) it := ⟨by rw [upd_ne (Ne.symm Ti)]; exact fi.1, fi.2⟩
      obtain ⟨f0, f1, f2, f3, f4, f5⟩ := id f'
      have I1 : Inv X pins σ (upd H s.heap.objs.size (.tup [.ref c, y])) { s with heap := h2 } := I0.turned (t' := s.toks) (fun b' o n q => by
        rw [sb.2 b' n]
        by_cases z : b' = s.heap.objs.size
        · subst z
          rw [Heap.get?_push_size _ rfl] at q
          rw [← q]; exact ht
        · refine kp b' o n ?_
          rw [← q]
          exact (Heap.get?_push_ne s.heap b' _ z).symm) f0 f1 f3 f4 f5
      refine ⟨.ref s.heap.objs.size, _, I1, rfl, ⟨s.heap.objs.size, c, y, I.fresh, rfl, rfl, hc1, hy⟩, ⟨_, _, he2⟩, fun b' hb => ?_⟩
      have : b' = it := by simpa using hb
      subst this
      exact f0
    · rw [← Array.getElem?_toList, el, he] at q
      cases q
  done := by
    intro X hP hw hK hc i pins s σ H E I hf st hg
    subst hP hw hK
    obtain ⟨hq, hi⟩ := hg
    obtain ⟨x0, y0, st⟩ := st
    obtain ⟨us, es, rd, el, l1, l2, l3, _⟩ := raw_of I.hok hq
    obtain ⟨f0, f1, f2, f3, f4, f5⟩ := hf it (by simp)
    refine istep_raw (I.ok.hd hc) (by rw [l3]; exact st) rd (fun e h1 q _ _ _ => ?_) fun h' _ eb => ⟨rfl, I.turned (t' := s.toks) (fun c' o hb e => eb c' o hb e) f0 f1 f3 f4 f5⟩
    rw [Array.getElem?_eq_none (by omega)] at q
    cases q
  self := fun _ _ _ _ _ st h => by
    obtain ⟨x, y, st⟩ := st
    have ty : Shared.TypeIs _ (.ref it) "dict_itemiterator" := ⟨_, st, rfl⟩
    refine wpAny_pyIter_slot ty F.slot_dict_itemiterator_iter (wpAny_call_entry F.slot_dict_itemiterator_iter ty entry_item_iter ?_ (F.args_dict_itemiterator_iter_1 _))
    show wpAny _ _ (ret (.ref it)) _ _ _
    exact wpAny_pure ⟨_, rfl, "dict_itemiterator", _, ty, F.slot_dict_itemiterator_next.lookup, h⟩
def iItems (tl : TE) : TI := fun σ H R => tl σ H fun x H1 => ∃ b a ep ks as vs, x = .ref a ∧ DcAt H1 b a ep ks as vs ∧ R (Itp b a ep ks as vs) H1
theorem pi_items {X : Cx} {tp apos cpos : Pos} {l : Expr} {tl : TE} (hl : PE X l tl) (hbase : attributeBase l "items" X.env (eval l X.env) = eval l X.env := by rfl) (hline : (apos.endLine == cpos.line) = true := by rfl) : PI X (.Tuple elts k tp) (.Call (.Attribute l "items" apos) [] [] cpos) (iItems tl) := by
  intro pins s σ H R I h
  refine wpAny_Call_method (T := "dict") (id := "dict.items") hbase rfl hline PySem.F.plainAttrs_dict PySem.F.slot_dict_items PySem.F.type_dict_items (thn (hl pins s σ H _ I h) fun v s1 ⟨x, H1, I1, r1, b, a, ep, ks, as, vs, e, dc, q⟩ => ?_)
  subst e
  obtain rfl : v = Value.ref a := r1
  obtain ⟨t1, t2⟩ := dc.typ I1
  refine ⟨t1, t2, ?_⟩
  obtain ⟨us, es, rd, el, l1, l2, l3, _, hs⟩ := raw_of I1.hok dc.h
  show wpAny _ _ (callWith cpos (.builtin "dict.items") [.ref a] [] []) _ _ s1
  refine method_meetsIn PySem.F.slot_dict_items PySem.F.entry_dict_items rfl (PySem.evalArgs_none ⟨rfl, t1, PySem.F.args_dict_items_1 _, _, meets_items a hs, ⟨es, ep, rd⟩, ?_⟩)
  have rd1 : RawD (s1.heap.push { cls := .type "dict_items", data := .fields #[.ref a] }) a es ep := by
    obtain ⟨o, ho, z⟩ := rd
    exact ⟨o, Heap.get?_push_of_some _ ho, z⟩
  have I2 : Inv X pins σ H1 { s1 with heap := s1.heap.push { cls := .type "dict_items", data := .fields #[.ref a] } } := I1.kept (t' := s1.toks) fun b o e => Heap.get?_push_of_some _ e
  refine iiter_raw (s := { s1 with heap := s1.heap.push { cls := .type "dict_items", data := .fields #[.ref a] } }) ⟨_, Heap.get?_push_size _ rfl, rfl, rfl⟩ rd1 ?_
  refine ⟨_, [_], _, _, H1, rfl, I2.kept (t' := s1.toks) fun b o e => Heap.get?_push_of_some _ e, turn_items _, ⟨_, _, by rw [l3]; exact Heap.get?_push_size _ rfl⟩, fun c hc => ?_, q⟩
  rw [List.mem_singleton.mp hc]
  exact I2.fpOk (Nat.le_refl _) (I2.hok.fresh (Nat.le_refl _))
end
end L2
namespace L3
open PySem L2
section
variable {K : PySem.W.Frag} {u : UE} {w : UL}
/-- a new tuple at each turn -/
def ItE (K : PySem.W.Frag) (B : Hp) (J : It) (ds : List D) : Prop := ∀ (H : Hp), Same B H → ∀ i, (i < ds.length → J.go i H) ∧ (ds.length ≤ i → J.stop i H) ∧ ∀ x H', i < ds.length → J.yld i H x H' → ∃ q vs es, H q = none ∧ x = .ref q ∧ H' = upd H q (.tup vs) ∧ ds[i]? = some (.tup es) ∧ Reps K B vs es
def RefIE (K : PySem.W.Frag) (t : TI) (u : UL) : Prop := ∀ (ρ : List Sl) (k : List D → Prop), u ρ k → ∀ (R : Hp) (W : Addr → Prop) (B H : Hp) (σ : St) (Q : It → Hp → Prop), Ev K R W B H σ ρ →
  (∀ ds J B' H', k ds → Ev K R W B' H' σ ρ → Grow R B B' → ItE K B' J ds → Q J H') → t σ H Q
theorem refCompE {wi : TI} {g : TG} {tt : TT} {te : TE} {ug : UG} {ut : UT} {nt : Nat} {js : List Nat} (h0 : RefIE K wi w) (hg : RefG K g ug) (ht : RefT K tt ut) (h1 : RefE K te u) (hnd : js.Nodup) : RefO K (tCompG wi g tt te nt js) (uCompG w ug ut u nt js) := by
  intro ρ k h R W B H σ Q e q
  refine h0 ρ _ h R W B H σ _ e fun ds J B1 H1 z1 e1 g1 it => ?_
  obtain ⟨hl, z1⟩ := z1
  intro D hD
  obtain ⟨f1, f2, f3⟩ := e1.toWd.fresh hD
  have nm1 : ∀ i, ¬ MutAt σ ρ i D := fun i m => e1.notNew hD m rfl
  have ei := e1.within nt hnd
  have hmi : ∀ j a, MutAt (List.replicate nt none ++ freeV σ js) (List.replicate nt .no ++ js.map (frS ρ)) j a → ∃ j, j ∈ js ∧ σ[j]? = some (some (V.ref a)) ∧ ρ[j]? = some Sl.bag := fun j a m => by
    have q2 := (ei.mutOk m).2
    rcases m with ⟨m1, z | ⟨es, z⟩⟩ | ⟨c, z, mc⟩
    · obtain ⟨c, c1, c2, _⟩ := ei.bagAt z
      rw [m1] at c1; cases c1
      rcases c2 with c2 | c2
      · exact c2
      · exact absurd c2 q2
    · obtain ⟨c, c1, c2, _⟩ := ei.ownC z
      rw [m1] at c1; cases c1
      exact absurd c2 q2
    · exact absurd ((ei.deepAt z).2.fr a mc).1 q2
  generalize hWW : (fun a => ∃ j, j ∈ js ∧ σ[j]? = some (some (V.ref a)) ∧ ρ[j]? = some Sl.bag) = WW at ei
  have hmi : ∀ j a, MutAt (List.replicate nt none ++ freeV σ js) (List.replicate nt .no ++ js.map (frS ρ)) j a → WW a := fun j a m => by rw [← hWW]; exact hmi j a m
  have hW : ∀ a, WW a → ∃ i : Nat, σ[i]? = some (some (.ref a)) ∧ ρ[i]? = some .bag := fun a z => by
    rw [← hWW] at z
    obtain ⟨j, _, z⟩ := z
    exact ⟨j, z⟩
  have nWD : ¬ WW D := fun z => by
    obtain ⟨i', y1, y2⟩ := hW D z
    exact nm1 i' (.inl ⟨y1, .inl y2⟩)
  refine ⟨fun i m σi H' => ∃ B' ys es ρi, m = ds.length - i ∧ i ≤ ds.length ∧ Ev K H1 WW B' H' σi ρi ∧ Grow H1 B1 B' ∧ H' D = some (.lst ys) ∧ B' D = none ∧ (∀ j a, MutAt σi ρi j a → WW a) ∧ ys.length ≤ i ∧ Reps K B' ys es ∧ compG ug ut u (ds.drop i) ρi fun r => k (es ++ r),
    ⟨ds.length, B1, [], [], _, by simp, Nat.zero_le _, ei.allocH hD _, Grow.refl _ _, upd_same, f3, hmi, Nat.le_refl _, .nil, by simpa using z1⟩, ?_⟩
  rintro i m σi H2 ⟨B2, ys, es, ρi, rfl, hi, e2, g2, hy, hb, hnm, hyl, ry, z2⟩
  obtain ⟨t1, t2, t3⟩ := it H2 (g2.s.trans e2.bh) i
  by_cases hlt : i < ds.length
  · refine .inr ⟨t1 hlt, fun x H' y => ?_⟩
    obtain ⟨q0, vs0, es0, hq0, rfl, rfl, hd, rx⟩ := t3 x H' hlt y
    have ed : ds.drop i = .tup es0 :: ds.drop (i + 1) := by
      rw [List.drop_eq_getElem_cons hlt]
      rw [List.getElem?_eq_getElem hlt] at hd
      rw [Option.some.inj hd]
    rw [ed] at z2
    have nqD : D ≠ q0 := fun z => by rw [z, hq0] at hy; cases hy
    have g20 := e2.grow hq0 (.tup vs0)
    have e20 := e2.alloc hq0 (.tup vs0)
    have hy0 : upd H2 q0 (.tup vs0) D = some (.lst ys) := by rw [upd_ne nqD]; exact hy
    have hb0 : upd B2 q0 (.tup vs0) D = none := by rw [upd_ne nqD]; exact hb
    have ry0 := ry.mono g20.s
    have g200 := g2.trans g20
    have rx0 : Rep K (upd B2 q0 (.tup vs0)) (.ref q0) (.tup es0) := .tup upd_same (rx.mono g200.s)
    generalize upd H2 q0 (.tup vs0) = H' at e20 hy0
    generalize upd B2 q0 (.tup vs0) = B2' at e20 hb0 ry0 g200 rx0
    refine hg _ ρi _ z2 H1 WW B2' H' σi _ _ e20 rx0 fun ρ3 σ3 z3 e3 mm => ?_
    have hnm3 : ∀ j a, MutAt σ3 ρ3 j a → WW a := fun j a m => hnm j a (mm j a m)
    have bD : ∀ {B4 : Hp}, Grow H' B2' B4 → B4 D = none := fun {B4} g4 => by
      cases qd : B4 D with
      | none => rfl
      | some o =>
        rcases g4.n D o qd with z | z
        · rw [hb0] at z; cases z
        · rw [hy0] at z; cases z
    refine ht ρ3 _ z3 H' WW B2' H' σ3 _ (e3.rebase hnm3) fun b B4 H4 z4 e4 g4 => ?_
    have hD4 : H4 D = some (.lst ys) := e4.fr D _ hy0 nWD
    cases b with
    | false =>
      rw [if_neg Bool.false_ne_true] at z4 ⊢
      obtain ⟨e5, g5⟩ := e3.unbase hnm3 e4 g4
      exact ⟨ds.length - (i + 1), by omega, B4, ys, es, ρ3, rfl, hlt, e5, g200.trans g5, hD4, bD g4, hnm3, by omega, ry0.mono g4.s, z4⟩
    | true =>
      rw [if_pos rfl] at z4 ⊢
      refine h1 ρ3 _ z4 H' WW B4 H4 σ3 _ e4 fun y' v B5 H5 z5 e5 g5 s5 => ?_
      have g45 := g4.trans g5
      have hD5 : H5 D = some (.lst ys) := e5.fr D _ hy0 nWD
      obtain ⟨e6, g6⟩ := e3.unbase hnm3 e5 g45
      refine ⟨ys, hD5, by omega, ds.length - (i + 1), by omega, B5, ys ++ [v], es ++ [y'], ρ3, rfl, hlt, e6.scribble hD (bD g45) (fun j m => nWD (hnm3 j D m)) _, g200.trans g6, upd_same, bD g45, hnm3, by rw [List.length_append, List.length_singleton]; omega, (ry0.mono g45.s).append (.cons s5 .nil), ?_⟩
      simpa [List.append_assoc] using z5
  · have eq : i = ds.length := by omega
    subst eq
    rw [List.drop_length] at z2
    obtain ⟨e4, g4⟩ := e1.after hW e2.toWd g2
    refine .inl ⟨t2 (Nat.le_refl _), q _ D ys B2 H2 (by simpa [compG] using z2) e4 (g1.trans g4) f1 hb hy ry nm1⟩
def PIE3 (X : Cx) (tg e : Expr) (u : UL) : Prop := ∃ t, PI X tg e t ∧ RefIE X.K t u
variable {X : Cx} {elt iter tg : Expr} {ifs : List Expr} {scope : Scope} {cl : List (Str × Addr)} {ts fr : List Str} {js : List Nat} {ug : UG} {ut : UT} {pos : Pos}
theorem o_compE (hi : PIE3 X tg iter w) (hg : ∀ C s H ex, PG3 (compCx X (ts ++ fr) scope cl C s H ex) tg ug) (hts : ∀ C s H ex, PIfs3 (compCx X (ts ++ fr) scope cl C s H ex) ifs ut) (helt : ∀ C s H ex, PE3 (compCx X (ts ++ fr) scope cl C s H ex) elt u)
    (F : FreeOk X scope cl fr js) (hjn : js.Nodup := by decide) (hc : X.calm = true := by rfl) (hs : ∀ v, foldedSetIterable iter X.env v = pure v := by intro _; rfl) : PO3 X (.ListComp elt [⟨tg, iter, ifs, 0⟩] scope pos) (uCompG w ug ut u ts.length js) := by
  obtain ⟨_, h0, r0⟩ := hi
  obtain ⟨tg', hg', rg⟩ := joinG (K := X.K) (Xs := fun a : Addr × Shared × Hp × List Addr => compCx X (ts ++ fr) scope cl a.1 a.2.1 a.2.2.1 a.2.2.2) (fun _ => rfl) fun a => hg a.1 a.2.1 a.2.2.1 a.2.2.2
  obtain ⟨tt, ht', rt⟩ := joinI (K := X.K) (Xs := fun a : Addr × Shared × Hp × List Addr => compCx X (ts ++ fr) scope cl a.1 a.2.1 a.2.2.1 a.2.2.2) (fun _ => rfl) fun a => hts a.1 a.2.1 a.2.2.1 a.2.2.2
  obtain ⟨te, he', re⟩ := joinE (K := X.K) (Xs := fun a : Addr × Shared × Hp × List Addr => compCx X (ts ++ fr) scope cl a.1 a.2.1 a.2.2.1 a.2.2.2) (fun _ => rfl) fun a => helt a.1 a.2.1 a.2.2.1 a.2.2.2
  exact ⟨_, pe_compG h0 (fun C s H ex => hg' (C, s, H, ex)) (fun C s H ex => ht' (C, s, H, ex)) (fun C s H ex => he' (C, s, H, ex)) F hc hs, refCompE r0 rg rt re hjn⟩
def prD (b : Bool) : List (List (List Int)) → List D → List D
  | k :: ks, d :: ds => .tup [keyD b k, d] :: prD b ks ds
  | _, _ => []
theorem prD_len {b : Bool} : ∀ {ks : List (List (List Int))} {ds : List D}, ds.length = ks.length → (prD b ks ds).length = ks.length
  | [], _, _ => by simp [prD]
  | _ :: _, [], h => by simp at h
  | k :: ks, d :: ds, h => by simp [prD, prD_len (b := b) (ks := ks) (ds := ds) (by simpa using h)]
theorem prD_at {b : Bool} : ∀ {ks : List (List (List Int))} {ds : List D} {i : Nat} {k : List (List Int)} {d : D}, ks[i]? = some k → ds[i]? = some d → (prD b ks ds)[i]? = some (.tup [keyD b k, d])
  | [], _, _, _, _, h, _ => by simp at h
  | _ :: _, [], _, _, _, _, h => by simp at h
  | k :: ks, d :: ds, 0, _, _, h1, h2 => by simp at h1 h2; subst h1 h2; rfl
  | k :: ks, d :: ds, i + 1, _, _, h1, h2 => by
    have := prD_at (b := b) (ks := ks) (ds := ds) (i := i) (by simpa using h1) (by simpa using h2)
    simpa [prD] using this
def uiP (u : UE) : UL := fun ρ k => u ρ fun x => ∃ b ks ds, x = .dct b ks ds ∧ ds.length = ks.length ∧ k (prD b ks ds)
theorem i_items {tp apos cpos : Pos} {elts : List Expr} {kk : Nat} {l : Expr} {uo : UE} (hl : PE3 X l uo) (hbase : attributeBase l "items" X.env (eval l X.env) = eval l X.env := by rfl) (hline : (apos.endLine == cpos.line) = true := by rfl) : PIE3 X (.Tuple elts kk tp) (.Call (.Attribute l "items" apos) [] [] cpos) (uiP uo) := by
  obtain ⟨_, h1, r1⟩ := hl
  refine ⟨_, pi_items h1 hbase hline, fun ρ k h R W B H σ Q e q => ?_⟩
  refine r1 ρ _ h R W B H σ _ e fun d v B1 H1 z1 e1 g1 s1 => ?_
  obtain ⟨b, ks, ds, rfl, ld, z⟩ := z1
  cases s1 with
  | @dct a _ ep _ as vs _ hB hkk hbb rr =>
    have la : as.length = ks.length := by have := hkk.length; simpa using this
    have lv := rr.length
    refine ⟨b, a, ep, ks, as, vs, rfl, ⟨e1.bh _ _ hB, keys_of e1.bh hbb hkk⟩, ?_⟩
    refine q _ _ B1 H1 z e1 g1 fun H' sH i => ?_
    rw [prD_len ld]
    refine ⟨fun hi => ⟨sH _ _ hB, hi⟩, fun hi => ⟨sH _ _ hB, hi⟩, fun x H2 hi y => ?_⟩
    obtain ⟨p, c, y, hp, rfl, rfl, hc, hy⟩ := y
    obtain ⟨d, hd, rd⟩ := rr.getV hy
    obtain ⟨kd, hkd, rk⟩ := hkk.getV (i := i) (v := .ref c) (by rw [List.getElem?_map, hc]; rfl)
    have ek : ks[i]? = some ks[i] := List.getElem?_eq_getElem hi
    rw [List.getElem?_map, ek] at hkd
    cases hkd
    exact ⟨p, _, _, hp, rfl, rfl, prD_at ek hd, .cons rk (.cons rd .nil)⟩
end
end L3

/-! range(a, b, -1); name -= an int. -/
namespace L2
open PySem PySem.Spec PyProof.Rows
/-- the ints from lo down -/
def Itw (lo : Int) (n : Nat) : It := ⟨fun i _ => i < n, fun i H x H' => H' = H ∧ x = .int (lo - i), fun i _ => n ≤ i⟩
theorem turn_down {P : Program} {w : World} {K : PySem.W.Frag} {tg : Expr} (it : Addr) (lo : Int) (n : Nat) : Turn P w K tg (Itw lo n) [it] it (fun i h => IsRangeIter h it (lo + (i : Nat) * (-1)) ((n : Int) - (i : Nat)) (-1)) where
  mem := by simp
  obj := fun i h st b hb => by
    have e : b = it := by simpa using hb
    subst e
    exact ⟨_, st, fun v z => by cases z⟩
  keep := fun i h h' st k => k it (by simp) _ st
  item := by
    intro X hP hw hK hc i pins s σ H E I hf st hg
    subst hP hw hK
    obtain ⟨f0, f1, f2, f3, f4, f5⟩ := hf it (by simp)
    refine (Walks.range (prog := X.prog) (w := X.w) (I.ok.hd hc) it lo (-1) n).item i s _ _ hg st fun v h' tk hv st' kk => ?_
    obtain ⟨t, rfl⟩ := hv
    have I1 : Inv X pins σ H { s with heap := h', toks := tk } := I.turned (fun b o hb e => kk b o (by simpa using hb) e) f0 f1 f3 f4 f5
    refine ⟨_, rfl, go_of (s := { s with heap := h', toks := tk }) (n := "range_iterator") st' rfl rfl (by decide) ⟨.int (lo - i), H, I1, ⟨t, ?_⟩, ⟨rfl, rfl⟩, st', fun b hb => (hf b hb).1⟩⟩
    rw [Int.mul_neg, Int.mul_one]; rfl
  done := by
    intro X hP hw hK hc i pins s σ H E I hf st hg
    subst hP hw hK
    obtain ⟨f0, f1, f2, f3, f4, f5⟩ := hf it (by simp)
    exact wpAny_pyNext_range_end (I.ok.hd hc) st (by have : n ≤ i := hg; omega) fun h' eb => ⟨rfl, I.turned (t' := s.toks) (fun b o hb e => eb b o hb e) f0 f1 f3 f4 f5⟩
  self := fun _ _ _ _ _ st h => wpAny_pyIter_rangeiter st h
theorem size_down (a b : Int) : Builtin.Range.rangeSize a b (-1) = ((a - b).toNat : Nat) := by
  unfold Builtin.Range.rangeSize
  rw [if_neg (by omega)]
  by_cases h : a > b
  · rw [if_pos h, show (-(-1) : Int) = 1 by omega, Int.ediv_one]; omega
  · rw [if_neg h]; omega
theorem small_down {a b : Int} (ha : -(2 ^ 62) ≤ a) (ha' : a < 2 ^ 62) (hb : -(2 ^ 62) ≤ b) (hb' : b < 2 ^ 62) : Builtin.Range.small a b (-1) = true := by
  unfold Builtin.Range.small
  rw [size_down]
  simp only [Builtin.Range.rangeFitsLong, Bool.and_eq_true, Bool.or_eq_true, decide_eq_true_eq, beq_iff_eq, show ¬ ((-1 : Int) > 0) by decide, if_false]
  omega
def iRngD (ta : TA) : TI := fun σ H R => ta σ H fun vs H1 => ∃ i j : Int, vs = [.int i, .int j, .int (-1)] ∧ (-(2 ^ 62) ≤ i ∧ i < 2 ^ 62 ∧ -(2 ^ 62) ≤ j ∧ j < 2 ^ 62) ∧ R (Itw i (i - j).toNat) H1
theorem pi_rangeD {X : Cx} {tg : Expr} {a b c : Expr} {ta : TA} {p pos : Pos} (hg : Gl X "range") (hm : X.mg "range" = none) (ha : PA X [a, b, c] ta) (hs : starEach [a, b, c] X.env = [(false, eval a X.env), (false, eval b X.env), (false, eval c X.env)] := by rfl) (hs2 : starEach [b, c] X.env = [(false, eval b X.env), (false, eval c X.env)] := by rfl) :
    PI X tg (.Call (.Name "range" p) [a, b, c] [] pos) (iRngD ta) := by
  intro pins s σ H R I h
  refine Call_ (ld_blt I hg hm boot_range (PyProof.Rows.callWith_type1 (thn (ha pos pins s σ H _ I h) fun us s1 ⟨vs, H1, I1, r1, q1⟩ => ?_) (by rw [hs, hs2]) (by rw [hs2]; rfl)))
  obtain ⟨i, j, e, ⟨q1, q2, q3, q4⟩, q⟩ := q1
  subst e
  cases r1 with
  | cons r rr =>
    cases rr with
    | cons r' rr =>
      cases rr with
      | cons r'' rr =>
        cases rr
        obtain ⟨t, rfl⟩ := r
        obtain ⟨t', rfl⟩ := r'
        obtain ⟨t'', rfl⟩ := r''
        refine call_range_3 (by decide) ?_ (.inl (PyProof.noPylong_small (by omega)))
        refine wpAny_pyIter_range (IsRange.new ..) (small_down q1 q2 q3 q4) ?_
        let h1 := s1.heap.push { cls := .type "range", data := .fields #[.int i t, .int j t', .int (-1) t''] }
        have I2 : Inv X pins σ H1 { s1 with heap := h1 } := I1.kept (t' := s1.toks) fun b o e => Heap.get?_push_of_some _ e
        refine ⟨h1.objs.size, [h1.objs.size], _, _, H1, rfl, I2.kept (t' := s1.toks) fun b o e => Heap.get?_push_of_some _ e, turn_down _ i (i - j).toNat, ?_, fun b hb => ?_, q⟩
        · have e1 : i + ((0 : Nat) : Int) * (-1) = i := by simp
          have e2 : (((i - j).toNat : Nat) : Int) - ((0 : Nat) : Int) = Builtin.Range.rangeSize i j (-1) := by rw [size_down]; omega
          show IsRangeIter _ _ (i + ((0 : Nat) : Int) * (-1)) ((((i - j).toNat : Nat) : Int) - ((0 : Nat) : Int)) (-1)
          rw [e1, e2]
          exact Heap.get?_push_size _ rfl
        · rw [List.mem_singleton.mp hb]
          exact I2.fpOk (Nat.le_refl _) (I2.hok.fresh (Nat.le_refl _))
end L2
namespace L3
open PySem L2
section
variable {K : PySem.W.Frag} {X : Cx} {pos p : Pos} {tg : Expr}
def uiRD (u u2 u3 : UE) : UL := fun ρ k => u ρ fun d => u2 ρ fun d2 => u3 ρ fun d3 => ∃ i j, d = .int i ∧ d2 = .int j ∧ d3 = .int (-1) ∧ (-(2 ^ 62) ≤ i ∧ i < 2 ^ 62 ∧ -(2 ^ 62) ≤ j ∧ j < 2 ^ 62) ∧ k ((List.range (i - j).toNat).map fun t : Nat => D.int (i - t))
theorem i_rngD {a b c : Expr} {u u2 u3 : UE} (ha : PE3 X a u) (hb : PE3 X b u2) (hc : PE3 X c u3) (hg : Gl X "range") (hm : X.mg "range" = none) (hs : starEach [a, b, c] X.env = [(false, eval a X.env), (false, eval b X.env), (false, eval c X.env)] := by rfl) (hs2 : starEach [b, c] X.env = [(false, eval b X.env), (false, eval c X.env)] := by rfl) (hs3 : starEach [c] X.env = [(false, eval c X.env)] := by rfl) : PI3 X tg (.Call (.Name "range" p) [a, b, c] [] pos) (uiRD u u2 u3) := by
  obtain ⟨_, h1, r1⟩ := ha; obtain ⟨_, h2, r2⟩ := hb; obtain ⟨_, h3, r3⟩ := hc
  refine ⟨_, pi_rangeD hg hm (pa_cons h1 (pa_cons h2 (pa_cons h3 pa_nil (by rw [hs3]; rfl)) (by rw [hs2, hs3])) (by rw [hs, hs2])) hs hs2, fun ρ k h R W B H σ Q e q => ?_⟩
  refine r1 ρ _ h R W B H σ _ e fun d v B1 H1 z1 e1 g1 s1 => ?_
  refine r2 ρ _ z1 R W B1 H1 σ _ e1 fun d2 v2 B2 H2 z2 e2 g2 s2 => ?_
  refine r3 ρ _ z2 R W B2 H2 σ _ e2 fun d3 v3 B3 H3 z3 e3 g3 s3 => ?_
  obtain ⟨i, j, rfl, rfl, rfl, hb, z⟩ := z3
  refine ⟨i, j, by rw [s1.intV, s2.intV, s3.intV], hb, q _ _ B3 H3 z e3 ((g1.trans g2).trans g3) fun H' sH t => ?_⟩
  rw [List.length_map, List.length_range]
  refine ⟨fun hi => hi, fun hi => hi, fun x H' hi ⟨e1, e2⟩ => ⟨e1, ?_⟩⟩
  refine ⟨.int (i - t), ?_, ?_⟩
  · rw [List.getElem?_map, List.getElem?_range hi]; rfl
  · rw [e2]; exact .int _
end
section
variable {X : Cx} {e : Expr} {u : UE} {pos : Pos}
def uAugS (i : Nat) (u : UE) : US := fun U ρ => ∃ m, ρ[i]? = some (.val (.int m)) ∧ u ρ fun d => ∃ n, d = .int n ∧ U.nx (ρ.set i (.val (.int (m - n))))
theorem s_augS {i : Nat} {x : Str} {pos' : Pos} (hN : X.N.Nodup) (hi : X.N[i]? = some x) (hx : Loc X.env.scope x) (he : PE3 X e u) (hf : X.fn x = true ∨ X.env.scope.names.lookup x = some .local := by first | exact .inl rfl | exact .inr rfl | assumption) :
    PS3 X (.AugAssign (.Name x pos') .Sub e pos) (uAugS i u) := by
  obtain ⟨_, h1, r1⟩ := he
  refine ⟨_, ps_aug hN hi hx h1 ip_sub hf, fun U ρ h R W B H σ D e s => ?_⟩
  obtain ⟨m, hm, h⟩ := h
  obtain ⟨v, hv, rv⟩ := e.val hm
  refine ⟨v, hv, ?_⟩
  refine r1 ρ _ h R W B H σ _ e fun d w B1 H1 z1 e1 g1 s1 => ?_
  obtain ⟨n, rfl, z⟩ := z1
  exact ⟨m, n, rv.intV, s1.intV, s.nx _ _ B1 H1 z (e1.setV i (.int _)) g1⟩
end
end L3

/-! for y in x: if test: return .., x a list of one's own, the test never so. -/
namespace L3
open PySem L2
section
variable {X : Cx}
end
end L3

/-! Marks: sums over sides by directions. -/
namespace Cut
open PySem L2 L3
open PySem.Builtin.Int (intBits)
/-- the sides of a ring of places over one bottom -/
def sds (ps : List F2) : List (F2 × F2) := ps.zip (ps.drop 1 ++ ps.take 1)
/-- the step of a side -/
def stE (e : F2 × F2) : F2 := (e.2.1 - e.1.1, e.2.2 - e.1.2)
def dirE (e : F2 × F2) : F2 := wdir (stE e).1 (stE e).2
def parE (e : F2 × F2) : Int := wpar (stE e).1 (stE e).2
def NoSpot (e : F2 × F2) : Prop := (stE e).1 ≠ 0 ∨ (stE e).2 ≠ 0
/-- how often a direction goes -/
def smD (d : F2) : List (F2 × F2) → Int
  | [] => 0
  | e :: es => (if dirE e = d then parE e else 0) + smD d es
theorem smD_app (d : F2) : ∀ (a b : List (F2 × F2)), smD d (a ++ b) = smD d a + smD d b
  | [], b => by simp [smD]
  | e :: a, b => by rw [List.cons_append, smD, smD, smD_app d a b]; omega
theorem wpar_mul {g a b : Int} (hg : 0 < g) : wpar (g * a) (g * b) = g * wpar a b := by
  have e : ((Int.gcd (g * a) (g * b) : Nat) : Int) = g * ((Int.gcd a b : Nat) : Int) := by
    rw [Int.gcd_mul_left]
    have : ((g.natAbs : Nat) : Int) = g := by omega
    rw [Int.natCast_mul, this]
  have c1 : g * b < 0 ↔ b < 0 := by
    constructor
    · intro h
      by_cases z : b < 0
      · exact z
      · exact absurd (Int.mul_nonneg (Int.le_of_lt hg) (by omega : 0 ≤ b)) (by omega)
    · intro h; exact Int.mul_neg_of_pos_of_neg hg h
  have c2 : g * a < 0 ↔ a < 0 := by
    constructor
    · intro h
      by_cases z : a < 0
      · exact z
      · exact absurd (Int.mul_nonneg (Int.le_of_lt hg) (by omega : 0 ≤ a)) (by omega)
    · intro h; exact Int.mul_neg_of_pos_of_neg hg h
  have c3 : g * b = 0 ↔ b = 0 := by
    rw [Int.mul_eq_zero]
    constructor
    · rintro (h | h)
      · omega
      · exact h
    · exact .inr
  unfold wpar
  rw [e]
  by_cases h : b < 0 ∨ (b = 0 ∧ a < 0)
  · rw [if_pos h, if_pos (by rw [c1, c2, c3]; exact h), Int.mul_neg]
  · rw [if_neg h, if_neg (by rw [c1, c2, c3]; exact h)]
theorem wdir_mul {g a b : Int} (hg : 0 < g) (h : a ≠ 0 ∨ b ≠ 0) : wdir (g * a) (g * b) = wdir a b := by
  have h' : g * a ≠ 0 ∨ g * b ≠ 0 := by
    rcases h with h | h
    · exact .inl (Int.mul_ne_zero (by omega) h)
    · exact .inr (Int.mul_ne_zero (by omega) h)
  obtain ⟨a1, a2, _, _⟩ := wdir_spec h
  obtain ⟨b1, b2, _, _⟩ := wdir_spec h'
  have w0 := wpar_ne h
  rw [wpar_mul hg] at b1 b2
  have e1 : (wdir (g * a) (g * b)).1 = (wdir a b).1 := by
    refine Int.eq_of_mul_eq_mul_right (Int.mul_ne_zero (by omega : g ≠ 0) w0) ?_
    rw [b1, ← a1]; grind
  have e2 : (wdir (g * a) (g * b)).2 = (wdir a b).2 := by
    refine Int.eq_of_mul_eq_mul_right (Int.mul_ne_zero (by omega : g ≠ 0) w0) ?_
    rw [b2, ← a2]; grind
  exact Prod.ext e1 e2
/-- a step in lowest form has the direction of the step, and goes as often -/
theorem way_npt {a b n : Int} (hn : 0 < n) (h : a ≠ 0 ∨ b ≠ 0) : wdir (npt a b n).1 (npt a b n).2.1 = wdir a b ∧ nrat (wpar (npt a b n).1 (npt a b n).2.1) (npt a b n).2.2 = nrat (wpar a b) n ∧ ((npt a b n).1 ≠ 0 ∨ (npt a b n).2.1 ≠ 0) := by
  obtain ⟨⟨p0, _⟩, q1, q2, _⟩ := npt_spec (a := a) (b := b) (Int.ne_of_gt hn)
  generalize npt a b n = p at p0 q1 q2
  obtain ⟨x, y, z⟩ := p
  dsimp only at *
  have hxy : x ≠ 0 ∨ y ≠ 0 := by
    by_cases z1 : x = 0
    · by_cases z2 : y = 0
      · exfalso
        rw [z1, Int.zero_mul] at q1
        rw [z2, Int.zero_mul] at q2
        have e1 : a = 0 := (Int.mul_eq_zero.mp q1.symm).resolve_right (by omega)
        have e2 : b = 0 := (Int.mul_eq_zero.mp q2.symm).resolve_right (by omega)
        rcases h with h | h
        · exact h e1
        · exact h e2
      · exact .inr z2
    · exact .inl z1
  have w1 : n * wpar x y = z * wpar a b := by
    rw [← wpar_mul hn, ← wpar_mul p0, Int.mul_comm n x, Int.mul_comm n y, Int.mul_comm z a, Int.mul_comm z b, q1, q2]
  refine ⟨?_, ?_, hxy⟩
  · rw [← wdir_mul hn hxy, ← wdir_mul p0 h, Int.mul_comm n x, Int.mul_comm n y, Int.mul_comm z a, Int.mul_comm z b, q1, q2]
  · refine nrat_cross (Int.ne_of_gt p0) (Int.ne_of_gt hn) ?_
    grind
end Cut

/-! Cloths drawn about a middle, and in steps. -/
namespace Cut
open PySem L2 L3
open PySem.Builtin.Int (intBits)
def sp6 : List F2 := [(5, 0), (5, 1), (5, 2), (4, 3), (3, 4), (2, 5)]
def rotN : Nat → F2 → F2
  | 0, p => p
  | t + 1, p => (-(rotN t p).2, (rotN t p).1)
def spk (k : Nat) : F2 := rotN (k / 6) (sp6.getD (k % 6) (0, 0))
def spt (q : Nat × Int) : F2 := (q.2 * (spk q.1).1, q.2 * (spk q.1).2)
/-- how many places below i are the shift's -/
def mst (s : Int) (i : Nat) : Nat := ((List.range i).filter fun c : Nat => decide ((c : Int) % 8 = s)).length
/-- what is drawn up to spoke i -/
structure SelOk (s fa mo lf : Int) (i : Nat) (sel : List (Nat × Int)) : Prop where
  pw : sel.Pairwise fun a b => a.1 < b.1
  mem : ∀ q ∈ sel, q.1 < i ∧ 1 ≤ q.2 ∧ q.2 ≤ fa
  must : ∀ c : Nat, c < i → (c : Int) % 8 = s → ∃ l, (c, l) ∈ sel
  cnt : (sel.length : Int) + lf = mo - 3 + mst s i
  l0 : 0 ≤ lf
theorem mst_succ (s : Int) (i : Nat) : mst s (i + 1) = mst s i + if (i : Int) % 8 = s then 1 else 0 := by
  unfold mst
  rw [List.range_succ, List.filter_append, List.length_append]
  congr 1
  by_cases h : (i : Int) % 8 = s
  · simp [h]
  · simp [h]
theorem SelOk.start {s fa mo : Int} (h : 3 ≤ mo) : SelOk s fa mo (mo - 3) 0 [] := ⟨.nil, fun _ h => by simp at h, fun c h => by omega, by simp [mst], by omega⟩
theorem SelOk.put {s fa mo lf : Int} {i : Nat} {sel : List (Nat × Int)} (h : SelOk s fa mo lf i sel) {l : Int} (l1 : 1 ≤ l) (l2 : l ≤ fa) {lf' : Int} (hl : (i : Int) % 8 = s ∧ lf' = lf ∨ (i : Int) % 8 ≠ s ∧ lf' = lf - 1) (h0 : 0 ≤ lf') : SelOk s fa mo lf' (i + 1) (sel ++ [(i, l)]) := by
  refine ⟨List.pairwise_append.mpr ⟨h.pw, by simp, fun a ha b hb => ?_⟩, fun q hq => ?_, fun c hc e => ?_, ?_, h0⟩
  · rw [List.mem_singleton.mp hb]; exact (h.mem a ha).1
  · rcases List.mem_append.mp hq with hq | hq
    · obtain ⟨a, b, c⟩ := h.mem q hq; exact ⟨by omega, b, c⟩
    · rw [List.mem_singleton.mp hq]; exact ⟨by show i < i + 1; omega, l1, l2⟩
  · by_cases z : c = i
    · exact ⟨l, by rw [z]; simp⟩
    · obtain ⟨l', q⟩ := h.must c (by omega) e
      exact ⟨l', List.mem_append_left _ q⟩
  · have := h.cnt
    rw [mst_succ, List.length_append, List.length_singleton]
    rcases hl with ⟨a, b⟩ | ⟨a, b⟩
    · rw [if_pos a]; omega
    · rw [if_neg a]; omega
theorem SelOk.skip {s fa mo lf : Int} {i : Nat} {sel : List (Nat × Int)} (h : SelOk s fa mo lf i sel) (ne : (i : Int) % 8 ≠ s) : SelOk s fa mo lf (i + 1) sel := by
  refine ⟨h.pw, fun q hq => ?_, fun c hc e => ?_, ?_, h.l0⟩
  · obtain ⟨a, b, c⟩ := h.mem q hq; exact ⟨by omega, b, c⟩
  · by_cases z : c = i
    · subst z; exact absurd e ne
    · exact h.must c (by omega) e
  · have := h.cnt
    rw [mst_succ, if_neg ne]; omega
/-- corners on unlike spokes, as far out as drawn -/
structure StarOk (fa mo : Int) (sel : List (Nat × Int)) : Prop where
  pw : sel.Pairwise fun a b => a.1 < b.1
  mem : ∀ q ∈ sel, q.1 < 24 ∧ 1 ≤ q.2 ∧ q.2 ≤ fa
  must : ∃ s : Nat, s < 8 ∧ ∀ c : Nat, c < 24 → c % 8 = s → ∃ l, (c, l) ∈ sel
  len : (sel.length : Int) ≤ mo
theorem mst_24 {s : Int} (h0 : 0 ≤ s) (h1 : s < 8) : mst s 24 = 3 := by
  have : s = 0 ∨ s = 1 ∨ s = 2 ∨ s = 3 ∨ s = 4 ∨ s = 5 ∨ s = 6 ∨ s = 7 := by omega
  rcases this with rfl | rfl | rfl | rfl | rfl | rfl | rfl | rfl <;> decide +kernel
theorem SelOk.star {s fa mo lf : Int} {sel : List (Nat × Int)} (h : SelOk s fa mo lf 24 sel) (h0 : 0 ≤ s) (h1 : s < 8) : StarOk fa mo sel := by
  refine ⟨h.pw, h.mem, ⟨s.toNat, by omega, fun c hc e => h.must c hc (by omega)⟩, ?_⟩
  have := h.cnt
  have := h.l0
  rw [mst_24 h0 h1] at *
  omega
end Cut
namespace Cut
open PySem L2 L3
open PySem.Builtin.Int (intBits)
theorem rot_le {p : F2} {m : Int} (h1 : -m ≤ p.1) (h2 : p.1 ≤ m) (h3 : -m ≤ p.2) (h4 : p.2 ≤ m) : ∀ t, -m ≤ (rotN t p).1 ∧ (rotN t p).1 ≤ m ∧ -m ≤ (rotN t p).2 ∧ (rotN t p).2 ≤ m
  | 0 => ⟨h1, h2, h3, h4⟩
  | t + 1 => by
    obtain ⟨a, b, c, d⟩ := rot_le h1 h2 h3 h4 t
    show -m ≤ -(rotN t p).2 ∧ -(rotN t p).2 ≤ m ∧ -m ≤ (rotN t p).1 ∧ (rotN t p).1 ≤ m
    omega
theorem sp6_le (k : Nat) (h : k < 6) : 0 ≤ (sp6.getD k (0, 0)).1 ∧ (sp6.getD k (0, 0)).1 ≤ 5 ∧ 0 ≤ (sp6.getD k (0, 0)).2 ∧ (sp6.getD k (0, 0)).2 ≤ 5 := by
  have : k = 0 ∨ k = 1 ∨ k = 2 ∨ k = 3 ∨ k = 4 ∨ k = 5 := by omega
  rcases this with rfl | rfl | rfl | rfl | rfl | rfl <;> decide
theorem rotT_le (k t : Nat) (h : k < 6) : -5 ≤ (rotN t (sp6.getD k (0, 0))).1 ∧ (rotN t (sp6.getD k (0, 0))).1 ≤ 5 ∧ -5 ≤ (rotN t (sp6.getD k (0, 0))).2 ∧ (rotN t (sp6.getD k (0, 0))).2 ≤ 5 := by
  obtain ⟨a, b, c, d⟩ := sp6_le k h
  exact rot_le (by omega) b (by omega) d t
theorem sp6_at {i : Nat} : atI (sp6.map dR) ((i : Int) % 6) = some (dR (sp6.getD (i % 6) (0, 0))) := by
  have h : i % 6 < 6 := Nat.mod_lt _ (by decide)
  have e : (i : Int) % 6 = ((i % 6 : Nat) : Int) := by omega
  rw [e]
  generalize i % 6 = j at h
  have : j = 0 ∨ j = 1 ∨ j = 2 ∨ j = 3 ∨ j = 4 ∨ j = 5 := by omega
  rcases this with rfl | rfl | rfl | rfl | rfl | rfl <;> rfl
end Cut

/-! Rings drawn: unlike corners. -/
namespace Cut
open PySem L2 L3
open PySem.Builtin.Int (intBits)
/-- unlike corners, three to twenty-four, none too far -/
structure Rg2 (m : Int) (ps : List F2) : Prop where
  nd : ps.Nodup
  l3 : 3 ≤ ps.length
  l24 : ps.length ≤ 24
  le : ∀ p ∈ ps, -m ≤ p.1 ∧ p.1 ≤ m ∧ -m ≤ p.2 ∧ p.2 ≤ m
theorem sq0 (x : Int) : 0 ≤ x * x := by
  rcases Int.le_total 0 x with h | h
  · exact Int.mul_nonneg h h
  · have := Int.mul_nonneg (Int.neg_nonneg_of_nonpos h) (Int.neg_nonneg_of_nonpos h)
    rwa [Int.neg_mul_neg] at this
theorem spk_apart : ((List.range 24).all fun a => (List.range 24).all fun b => decide (a = b) || decide ((spk a).1 * (spk b).2 - (spk a).2 * (spk b).1 ≠ 0) || decide ((spk a).1 * (spk b).1 + (spk a).2 * (spk b).2 < 0)) = true := by decide +kernel
theorem spk_two {a b : Nat} (ha : a < 24) (hb : b < 24) (h : a ≠ b) : (spk a).1 * (spk b).2 - (spk a).2 * (spk b).1 ≠ 0 ∨ (spk a).1 * (spk b).1 + (spk a).2 * (spk b).2 < 0 := by
  have h1 := List.all_eq_true.mp spk_apart a (List.mem_range.mpr ha)
  have h2 := List.all_eq_true.mp h1 b (List.mem_range.mpr hb)
  simp only [Bool.or_eq_true, decide_eq_true_eq] at h2
  rcases h2 with (h2 | h2) | h2
  · exact absurd h2 h
  · exact .inl h2
  · exact .inr h2
theorem spt_two {p q : Nat × Int} (hp : p.1 < 24) (hq : q.1 < 24) (lp : 1 ≤ p.2) (lq : 1 ≤ q.2) (h : p.1 ≠ q.1) : spt p ≠ spt q := by
  intro e
  have e1 : p.2 * (spk p.1).1 = q.2 * (spk q.1).1 := congrArg (·.1) e
  have e2 : p.2 * (spk p.1).2 = q.2 * (spk q.1).2 := congrArg (·.2) e
  have z := spk_two hp hq h
  generalize (spk p.1).1 = a at *
  generalize (spk p.1).2 = b at *
  generalize (spk q.1).1 = c at *
  generalize (spk q.1).2 = d at *
  generalize p.2 = l at *
  generalize q.2 = m at *
  have lm : 0 < l * m := Int.mul_pos (by omega) (by omega)
  rcases z with z | z
  · refine z ?_
    have : (l * m) * (a * d - b * c) = 0 := by
      have q1 : l * a * (m * d) = m * c * (l * b) := by rw [e1, e2]
      grind
    exact (Int.mul_eq_zero.mp this).resolve_left (by omega)
  · have q1 : (l * m) * (a * c + b * d) = (m * c) * (m * c) + (m * d) * (m * d) := by
      have r1 : l * a * (m * c) = m * c * (m * c) := by rw [e1]
      have r2 : l * b * (m * d) = m * d * (m * d) := by rw [e2]
      grind
    have q2 : (l * m) * (a * c + b * d) < 0 := Int.mul_neg_of_pos_of_neg lm z
    have s1 := sq0 (m * c)
    have s2 := sq0 (m * d)
    omega
theorem star_rg {fa mo : Int} {sel : List (Nat × Int)} (h : StarOk fa mo sel) (m2 : mo ≤ 24) (f1 : 1 ≤ fa) : Rg2 (5 * fa) (sel.map spt) := by
  have pw : sel.Pairwise fun a b => spt a ≠ spt b := by
    refine List.Pairwise.imp_of_mem (fun {a b} ha hb hab => ?_) h.pw
    obtain ⟨a1, a2, _⟩ := h.mem a ha
    obtain ⟨b1, b2, _⟩ := h.mem b hb
    exact spt_two a1 b1 a2 b2 (by omega)
  refine ⟨List.pairwise_map.mpr pw, ?_, ?_, fun p hp => ?_⟩
  · rw [List.length_map]
    obtain ⟨s, s8, hs⟩ := h.must
    obtain ⟨l0, h0⟩ := hs s (by omega) (by omega)
    obtain ⟨l1, h1⟩ := hs (s + 8) (by omega) (by omega)
    obtain ⟨l2, h2⟩ := hs (s + 16) (by omega) (by omega)
    have : ([s, s + 8, s + 16] : List Nat).length ≤ (sel.map (·.1)).length := Tab.sub_len (by simp) fun x hx => by
      simp only [List.mem_cons, List.not_mem_nil, or_false] at hx
      rcases hx with rfl | rfl | rfl
      · exact List.mem_map.mpr ⟨_, h0, rfl⟩
      · exact List.mem_map.mpr ⟨_, h1, rfl⟩
      · exact List.mem_map.mpr ⟨_, h2, rfl⟩
    rw [List.length_map] at this
    exact this
  · rw [List.length_map]
    have := h.len
    omega
  · obtain ⟨q, hq, rfl⟩ := List.mem_map.mp hp
    obtain ⟨a, b, c⟩ := h.mem q hq
    obtain ⟨x1, x2, y1, y2⟩ := rotT_le (q.1 % 6) (q.1 / 6) (Nat.mod_lt _ (by decide))
    have : ∀ x : Int, -5 ≤ x → x ≤ 5 → -(5 * fa) ≤ q.2 * x ∧ q.2 * x ≤ 5 * fa := fun x h1 h2 => by
      have u1 : q.2 * x ≤ q.2 * 5 := Int.mul_le_mul_of_nonneg_left h2 (by omega)
      have u2 : q.2 * (-5) ≤ q.2 * x := Int.mul_le_mul_of_nonneg_left h1 (by omega)
      omega
    obtain ⟨r1, r2⟩ := this _ x1 x2
    obtain ⟨r3, r4⟩ := this _ y1 y2
    exact ⟨r1, r2, r3, r4⟩
/-- steps drawn down to place c: the last corner stands there -/
structure StpOk (fa : Int) (n c : Int) (ps : List F2) : Prop where
  nd : ps.Nodup
  le : ∀ p ∈ ps, 0 ≤ p.1 ∧ p.1 ≤ n ∧ 0 ≤ p.2 ∧ p.2 ≤ fa
  off : ∀ p ∈ ps, p = (0, 0) ∨ c ≤ p.1
  last : ∃ h pre, ps = pre ++ [(c, h)] ∧ (h ≠ 0 ∨ c = n) ∧ ∀ p ∈ ps, p.1 = c → p = (0, 0) ∨ p = (c, h)
  zero : (0, 0) ∈ ps
  len : (ps.length : Int) ≤ 2 + 2 * (n - c)
  len3 : c < n → 3 ≤ ps.length
theorem stp_start {fa n : Int} (h1 : 1 ≤ n) (hf : 1 ≤ fa) : StpOk fa n n [(0, 0), (n, 0)] := by
  refine ⟨?_, fun p hp => ?_, fun p hp => ?_, ⟨0, [(0, 0)], rfl, .inr rfl, fun p hp _ => ?_⟩, by simp, by simp, by omega⟩
  · have : ((0, 0) : F2) ≠ (n, 0) := fun e => by have := congrArg (·.1) e; simp at this; omega
    simp [this]
  · simp only [List.mem_cons, List.not_mem_nil, or_false] at hp
    rcases hp with rfl | rfl
    · exact ⟨by decide, by omega, by decide, by omega⟩
    · exact ⟨by show 0 ≤ n; omega, by show n ≤ n; omega, by show (0 : Int) ≤ 0; omega, by show 0 ≤ fa; omega⟩
  · simp only [List.mem_cons, List.not_mem_nil, or_false] at hp
    rcases hp with rfl | rfl
    · exact .inl rfl
    · exact .inr (Int.le_refl _)
  · simp only [List.mem_cons, List.not_mem_nil, or_false] at hp
    exact hp
theorem stp_next {fa n c h : Int} {ps : List F2} (ok : StpOk fa n (c + 1) ps) (c0 : 0 ≤ c) (cn : c < n) (h1 : 1 ≤ h) (h2 : h ≤ fa) {b : Bool} (hb : b = true ↔ ∃ pre, ps = pre ++ [(c + 1, h)]) : StpOk fa n c ((if b = true then ps else ps ++ [(c + 1, h)]) ++ [(c, h)]) := by
  obtain ⟨g, pre, e, eg, al⟩ := ok.last
  have notin : b = false → ((c + 1, h) : F2) ∉ ps := fun bf m => by
    rcases al _ m rfl with z | z
    · have := congrArg (·.1) z; simp at this; omega
    · have hg : h = g := congrArg (·.2) z
      have : b = true := hb.mpr ⟨pre, by rw [hg]; exact e⟩
      rw [bf] at this; cases this
  have mem : ∀ p, p ∈ (if b = true then ps else ps ++ [(c + 1, h)]) → p ∈ ps ∨ p = (c + 1, h) := fun p hp => by
    split at hp
    · exact .inl hp
    · rcases List.mem_append.mp hp with z | z
      · exact .inl z
      · exact .inr (List.mem_singleton.mp z)
  have memo : ∀ p ∈ ps, p ∈ (if b = true then ps else ps ++ [(c + 1, h)]) := fun p hp => by
    split
    · exact hp
    · exact List.mem_append_left _ hp
  have nd1 : (if b = true then ps else ps ++ [(c + 1, h)]).Nodup := by
    cases b with
    | true => exact ok.nd
    | false =>
      rw [if_neg (by simp)]
      refine List.nodup_append.mpr ⟨ok.nd, by simp, fun x hx y hy z => ?_⟩
      rw [List.mem_singleton.mp hy] at z
      subst z
      exact notin rfl hx
  have ln1 : (if b = true then ps else ps ++ [(c + 1, h)]).length ≤ ps.length + 1 := by split <;> simp
  have ln2 : ps.length ≤ (if b = true then ps else ps ++ [(c + 1, h)]).length := by split <;> simp
  have off1 : ∀ p ∈ (if b = true then ps else ps ++ [(c + 1, h)]), p = (0, 0) ∨ c + 1 ≤ p.1 := fun p hp => by
    rcases mem p hp with z | rfl
    · exact ok.off p z
    · exact .inr (Int.le_refl _)
  have b2 := ok.len
  have b4 : 2 ≤ ps.length := by
    have z := ok.zero
    rw [e] at z ⊢
    rcases List.mem_append.mp z with z | z
    · have := List.length_pos_of_mem z
      rw [List.length_append, List.length_singleton]; omega
    · have := congrArg (·.1) (List.mem_singleton.mp z)
      simp at this; omega
  refine ⟨List.nodup_append.mpr ⟨nd1, by simp, fun x hx y hy z => ?_⟩, fun p hp => ?_, fun p hp => ?_, ⟨h, _, rfl, .inl (by omega), fun p hp pc => ?_⟩, List.mem_append_left _ (memo _ ok.zero), ?_, fun _ => ?_⟩
  · rw [List.mem_singleton.mp hy] at z
    subst z
    rcases off1 _ hx with z | z
    · have := congrArg (·.2) z; simp at this; omega
    · simp at z; omega
  · rcases List.mem_append.mp hp with z | z
    · rcases mem p z with z | rfl
      · exact ok.le p z
      · exact ⟨by show 0 ≤ c + 1; omega, by show c + 1 ≤ n; omega, by show 0 ≤ h; omega, h2⟩
    · rw [List.mem_singleton.mp z]; exact ⟨c0, by show c ≤ n; omega, by show 0 ≤ h; omega, h2⟩
  · rcases List.mem_append.mp hp with z | z
    · rcases off1 p z with z | z
      · exact .inl z
      · exact .inr (by omega)
    · rw [List.mem_singleton.mp z]; exact .inr (Int.le_refl _)
  · rcases List.mem_append.mp hp with z | z
    · rcases off1 p z with z | z
      · exact .inl z
      · omega
    · exact .inr (List.mem_singleton.mp z)
  · rw [List.length_append, List.length_singleton]; omega
  · rw [List.length_append, List.length_singleton]; omega
theorem stp_rg {fa n : Int} {ps : List F2} (ok : StpOk fa n 0 ps) (n1 : 1 ≤ n) (n2 : n ≤ 11) (f1 : 1 ≤ fa) : Rg2 (11 * fa) ps := by
  refine ⟨ok.nd, ok.len3 (by omega), ?_, fun p hp => ?_⟩
  · have := ok.len; omega
  · obtain ⟨a, b, c, d⟩ := ok.le p hp
    omega
theorem Rg2.mono {m m' : Int} {ps : List F2} (h : Rg2 m ps) (l : m ≤ m') : Rg2 m' ps := ⟨h.nd, h.l3, h.l24, fun p hp => by obtain ⟨a, b, c, d⟩ := h.le p hp; omega⟩
theorem Rg2.map {m m' : Int} {ps : List F2} (h : Rg2 m ps) {f : F2 → F2} (inj : ∀ p q, f p = f q → p = q) (hf : ∀ p, (-m ≤ p.1 ∧ p.1 ≤ m ∧ -m ≤ p.2 ∧ p.2 ≤ m) → (-m' ≤ (f p).1 ∧ (f p).1 ≤ m' ∧ -m' ≤ (f p).2 ∧ (f p).2 ≤ m')) : Rg2 m' (ps.map f) := by
  refine ⟨List.pairwise_map.mpr (List.Pairwise.imp (fun {a b} hab z => hab (inj a b z)) h.nd), by rw [List.length_map]; exact h.l3, by rw [List.length_map]; exact h.l24, fun p hp => ?_⟩
  obtain ⟨q, hq, rfl⟩ := List.mem_map.mp hp
  exact hf q (h.le q hq)
theorem Rg2.rev {m : Int} {ps : List F2} (h : Rg2 m ps) : Rg2 m ps.reverse := ⟨(List.reverse_perm ps).nodup_iff.mpr h.nd, by rw [List.length_reverse]; exact h.l3, by rw [List.length_reverse]; exact h.l24, fun p hp => h.le p (List.mem_reverse.mp hp)⟩
theorem Rg2.rot {m : Int} {ps : List F2} (h : Rg2 m ps) (i : Nat) : Rg2 m (ps.drop i ++ ps.take i) := by
  have pm : (ps.drop i ++ ps.take i).Perm ps := List.perm_append_comm.trans (by rw [List.take_append_drop])
  exact ⟨pm.nodup_iff.mpr h.nd, by rw [pm.length_eq]; exact h.l3, by rw [pm.length_eq]; exact h.l24, fun p hp => h.le p (pm.mem_iff.mp hp)⟩
end Cut

/-! A loop that goes down. -/
namespace L3
open PySem L2
theorem forR_dn {s : US} {U : UEnds} {m n : Nat} {ρ : List Sl} (c : Int) (I : Nat → List Sl → Prop) (h0 : I 0 ρ) (h1 : ∀ (t : Nat) ρ, t < n → I t ρ → ∀ N : List Sl → Prop, (∀ r, I (t + 1) r → N r) → s { U with nx := N, ct := N, bk := U.nx } (ρ.set m (.val (.int (c - t)))))
    (h2 : ∀ ρ, I n ρ → U.nx ρ) : forR (ugName m) s U ((List.range n).map fun t : Nat => D.int (c - t)) ρ := by
  refine forR_map (f := fun t : Nat => D.int (c - t)) (rs := List.range n) (done := []) (fun pre ρ => I pre.length ρ) h0 (fun pre r rest ρ e h N kk => ?_) (fun ρ h => h2 ρ (by rw [List.nil_append, List.length_range] at h; exact h))
  rw [List.nil_append] at e
  have l : pre.length < n := by have := congrArg List.length e; simp at this; omega
  have er : r = pre.length := by
    have := congrArg (fun l => l[pre.length]?) e
    simp [l] at this
    exact this.symm
  subst er
  exact h1 _ ρ l h N fun r' hr => kk r' (by rw [List.length_append, List.length_singleton]; exact hr)
end L3
namespace Cut
open PySem L2 L3
def dF2 (ps : List F2) : D := .lst (ps.map dR)
structure RgsOk (m : Int) (rs : List (List F2)) : Prop where
  rg : ∀ r ∈ rs, Rg2 m r
  l8 : rs.length ≤ 8
  l24 : (rs.map List.length).sum ≤ 24
theorem rgs_one {m m' : Int} {r : List F2} (h : Rg2 m r) (l : m ≤ m') : RgsOk m' [r] := ⟨fun x hx => by rw [List.mem_singleton.mp hx]; exact h.mono l, by simp, by simp; exact h.l24⟩
theorem rgs_nil {m : Int} : RgsOk m [] := ⟨fun x hx => by simp at hx, by simp, by simp⟩
/-- so many times as large -/
theorem rg_times {m d fa : Int} {r : List F2} (h : Rg2 (5 * fa) r) (d1 : 1 ≤ d) (d2 : d ≤ 8) (f1 : 1 ≤ fa) (hm : 40 * fa ≤ m) : Rg2 m (r.map fun p => (p.1 * d, p.2 * d)) := by
  refine h.map (fun p q e => ?_) fun p ⟨a, b, c, e⟩ => ?_
  · have e1 : p.1 * d = q.1 * d := congrArg (·.1) e
    have e2 : p.2 * d = q.2 * d := congrArg (·.2) e
    exact Prod.ext (Int.eq_of_mul_eq_mul_right (by omega) e1) (Int.eq_of_mul_eq_mul_right (by omega) e2)
  · have lim : ∀ x : Int, -(5 * fa) ≤ x → x ≤ 5 * fa → -m ≤ x * d ∧ x * d ≤ m := fun x h1 h2 => by
      have u1 : x * d ≤ (5 * fa) * d := Int.mul_le_mul_of_nonneg_right h2 (by omega)
      have u2 : -(5 * fa) * d ≤ x * d := Int.mul_le_mul_of_nonneg_right h1 (by omega)
      have u3 : (5 * fa) * d ≤ (5 * fa) * 8 := Int.mul_le_mul_of_nonneg_left d2 (by omega)
      have u4 : -(5 * fa) * d = -((5 * fa) * d) := Int.neg_mul ..
      omega
    obtain ⟨r1, r2⟩ := lim _ a b
    obtain ⟨r3, r4⟩ := lim _ c e
    exact ⟨r1, r2, r3, r4⟩
theorem rg_slid {m d fa : Int} {r : List F2} (h : Rg2 (5 * fa) r) (d1 : 1 ≤ d) (d2 : d ≤ 8) (f1 : 1 ≤ fa) (hm : 400 * fa ≤ m) : Rg2 m (r.map fun p => (p.1 + 40 * fa * d, p.2)) := by
  refine h.map (fun p q e => ?_) fun p ⟨a, b, c, e⟩ => ?_
  · have e1 : p.1 + 40 * fa * d = q.1 + 40 * fa * d := congrArg (·.1) e
    have e2 : p.2 = q.2 := congrArg (·.2) e
    exact Prod.ext (by omega) e2
  · have u1 : 40 * fa * d ≤ 40 * fa * 8 := Int.mul_le_mul_of_nonneg_left d2 (by omega)
    have u2 : 0 ≤ 40 * fa * d := Int.mul_nonneg (by omega) (by omega)
    show -m ≤ p.1 + 40 * fa * d ∧ p.1 + 40 * fa * d ≤ m ∧ -m ≤ p.2 ∧ p.2 ≤ m
    omega
theorem RgsOk.put {m : Int} {rs : List (List F2)} {r : List F2} (h : RgsOk m rs) (hr : Rg2 m r) (h8 : rs.length < 8) (h24 : (rs.map List.length).sum + r.length ≤ 24) : RgsOk m (rs ++ [r]) := by
  refine ⟨fun x hx => ?_, by simp; omega, by simpa using h24⟩
  rcases List.mem_append.mp hx with hx | hx
  · exact h.rg x hx
  · rw [List.mem_singleton.mp hx]; exact hr
end Cut
namespace L3
open PySem L2
theorem compG_dR {h : Cut.F2 → D} {u : UE} {fs : List Sl} : ∀ {rs : List Cut.F2} {v0 v1 : Sl} {k : List D → Prop}, (∀ r ∈ rs, ∀ k : D → Prop, k (h r) → u (.val (.int r.1) :: .val (.int r.2) :: fs) k) → k (rs.map h) → compG (ugTup 2 (ugCons (ugName 0) (ugCons (ugName 1) ugNil))) utTrue u (rs.map Cut.dR) (v0 :: v1 :: fs) k
  | [], _, _, _, _, hk => hk
  | r :: rs, v0, v1, k, hu, hk => by
    refine ⟨_, rfl, rfl, _, _, rfl, _, _, rfl, rfl, ?_⟩
    show (if true = true then u (.val (.int r.1) :: .val (.int r.2) :: fs) fun y => compG (ugTup 2 (ugCons (ugName 0) (ugCons (ugName 1) ugNil))) utTrue u (rs.map Cut.dR) (.val (.int r.1) :: .val (.int r.2) :: fs) fun ys => k (y :: ys) else compG (ugTup 2 (ugCons (ugName 0) (ugCons (ugName 1) ugNil))) utTrue u (rs.map Cut.dR) (.val (.int r.1) :: .val (.int r.2) :: fs) k)
    rw [if_pos rfl]
    exact hu r List.mem_cons_self _ (compG_dR (fun q hq => hu q (List.mem_cons_of_mem _ hq)) hk)
end L3
namespace Cut
open PySem L2 L3
abbrev RR := List (List F2)
theorem rgs_of {m : Int} {rs qs : RR} (h : RgsOk m rs) (hq : ∀ q ∈ qs, Rg2 m q) (e : qs.map List.length = rs.map List.length) : RgsOk m qs := ⟨hq, by have := congrArg List.length e; simp at this; rw [this]; exact h.l8, by rw [e]; exact h.l24⟩
theorem RgsOk.mono {m m' : Int} {rs : RR} (h : RgsOk m rs) (l : m ≤ m') : RgsOk m' rs := ⟨fun r hr => (h.rg r hr).mono l, h.l8, h.l24⟩
end Cut

/-! Sums by directions, kept in a dict; sides in either order. -/
namespace Cut
open PySem L2 L3
open PySem.Builtin.Int (intBits)
theorem sds_ix (ps : List F2) : sds ps = (List.range ps.length).map fun i => (ps.getD i (0, 0), ps.getD ((i + 1) % ps.length) (0, 0)) := by
  unfold sds
  apply List.ext_getElem
  · simp; omega
  · intro i h1 h2
    have hi : i < ps.length := by simpa using h2
    simp only [List.getElem_zip, List.getElem_map, List.getElem_range]
    refine Prod.ext (by simp [hi]) ?_
    show (List.drop 1 ps ++ List.take 1 ps)[i]'_ = _
    by_cases z : i + 1 < ps.length
    · rw [List.getElem_append_left (by simp; omega), List.getElem_drop, Nat.mod_eq_of_lt z]
      simp [z, Nat.add_comm 1 i]
    · have e : i + 1 = ps.length := by omega
      rw [List.getElem_append_right (by simp; omega)]
      have m0 : (i + 1) % ps.length = 0 := by rw [e, Nat.mod_self]
      simp [m0, show i - (ps.length - 1) = 0 by omega]
      have : 0 < ps.length := by omega
      cases ps with
      | nil => simp at this
      | cons a t => simp
/-- unlike corners: no side is a spot -/
theorem sd_ne {ps : List F2} (h : ps.Nodup) (l : 2 ≤ ps.length) {e : F2 × F2} (he : e ∈ sds ps) : NoSpot e := by
  rw [sds_ix] at he
  obtain ⟨i, hi, rfl⟩ := List.mem_map.mp he
  have hi := List.mem_range.mp hi
  have hj : (i + 1) % ps.length < ps.length := Nat.mod_lt _ (by omega)
  have ne : i ≠ (i + 1) % ps.length := by
    by_cases z : i + 1 < ps.length
    · rw [Nat.mod_eq_of_lt z]; omega
    · rw [show i + 1 = ps.length by omega, Nat.mod_self]; omega
  have pw := List.pairwise_iff_getElem.mp h
  have nq : ps.getD i (0, 0) ≠ ps.getD ((i + 1) % ps.length) (0, 0) := by
    simp only [List.getD_eq_getElem?_getD, List.getElem?_eq_getElem hi, List.getElem?_eq_getElem hj, Option.getD_some]
    rcases Nat.lt_or_gt_of_ne ne with z | z
    · exact pw _ _ hi hj z
    · exact fun q => pw _ _ hj hi z q.symm
  unfold NoSpot stE
  generalize ps.getD i (0, 0) = a at nq
  generalize ps.getD ((i + 1) % ps.length) (0, 0) = b at nq
  show b.1 - a.1 ≠ 0 ∨ b.2 - a.2 ≠ 0
  by_cases z : b.1 - a.1 = 0
  · refine .inr fun y => nq (Prod.ext (by omega) (by omega))
  · exact .inl z
def smR (rs : RR) (d : F2) : Int := (rs.map fun r => smD d (sds r)).sum
end Cut

/-! What a dict of sums tells; marks in order. -/
namespace Cut
open PySem L2 L3
open PySem.Builtin.Int (intBits)
def kD (d : F2) : List (List Int) := [[d.1, d.2]]
theorem kD_inj {a b : F2} (h : kD a = kD b) : a = b := by
  unfold kD at h
  simp at h
  exact Prod.ext h.1 h.2
structure DcOk {α : Type} (ks : List (List (List Int))) (vs : List α) (z : α) (V : F2 → α) : Prop where
  nd : ks.Nodup
  len : vs.length = ks.length
  ky : ∀ k ∈ ks, ∃ d, k = kD d
  at_ : ∀ d, (lkA ks vs (kD d)).getD z = V d
theorem dc_start {α : Type} {z : α} : DcOk [] [] z fun _ => z := ⟨List.nodup_nil, rfl, fun k h => by simp at h, fun d => by simp [lkA]⟩
theorem DcOk.put {α : Type} {ks : List (List (List Int))} {vs : List α} {z : α} {V V' : F2 → α} (h : DcOk ks vs z V) (d0 : F2) (x : α) (h1 : V' d0 = x) (h2 : ∀ d, d ≠ d0 → V' d = V d) : DcOk (ptK ks (kD d0)) (ptA ks vs (kD d0) x) z V' := by
  refine ⟨pt_nodup h.nd, (pt_len h.len).1, fun k hk => ?_, fun d => ?_⟩
  · unfold ptK at hk
    split at hk
    · exact h.ky k hk
    · rcases List.mem_append.mp hk with hk | hk
      · exact h.ky k hk
      · exact ⟨d0, List.mem_singleton.mp hk⟩
  · rw [lk_put _ _ _ h.len]
    by_cases e : d = d0
    · subst e; rw [if_pos rfl, h1]; rfl
    · rw [if_neg (fun q => e (kD_inj q)), h.at_, h2 d e]
theorem DcOk.ext {α : Type} {ks : List (List (List Int))} {vs : List α} {z : α} {V V' : F2 → α} (h : DcOk ks vs z V) (e : ∀ d, V d = V' d) : DcOk ks vs z V' := ⟨h.nd, h.len, h.ky, fun d => by rw [h.at_, e]⟩
def dMk (x : F2 × F2) : D := .tup [dR x.1, dR x.2]
/-- marks: in the order of the directions, those that are not 0 -/
structure MkOk (S : F2 → Int) (n : Int) (L : List (F2 × F2)) : Prop where
  pw : L.Pairwise fun a b => lexI [a.1.1, a.1.2] [b.1.1, b.1.2] = true
  mem : ∀ d r, (d, r) ∈ L ↔ S d ≠ 0 ∧ r = nrat (S d) n
theorem sorted_same : ∀ {L M : List (F2 × F2)}, L.Pairwise (fun a b => lexI [a.1.1, a.1.2] [b.1.1, b.1.2] = true) → M.Pairwise (fun a b => lexI [a.1.1, a.1.2] [b.1.1, b.1.2] = true) → (∀ x, x ∈ L ↔ x ∈ M) → L = M
  | [], [], _, _, _ => rfl
  | [], b :: M, _, _, h => absurd ((h b).mpr List.mem_cons_self) (by simp)
  | a :: L, [], _, _, h => absurd ((h a).mp List.mem_cons_self) (by simp)
  | a :: L, b :: M, p, q, h => by
    obtain ⟨p1, p2⟩ := List.pairwise_cons.mp p
    obtain ⟨q1, q2⟩ := List.pairwise_cons.mp q
    have ir : ∀ x : F2 × F2, ¬ lexI [x.1.1, x.1.2] [x.1.1, x.1.2] = true := fun x => by rw [lex_irrefl]; simp
    have e : a = b := by
      rcases List.mem_cons.mp ((h a).mp List.mem_cons_self) with z | z
      · exact z
      · rcases List.mem_cons.mp ((h b).mpr List.mem_cons_self) with y | y
        · exact y.symm
        · exact absurd (lex_trans (p1 b y) (q1 a z)) (ir a)
    subst e
    congr 1
    refine sorted_same p2 q2 fun x => ?_
    have hx := h x
    constructor
    · intro z
      rcases List.mem_cons.mp (hx.mp (List.mem_cons_of_mem _ z)) with y | y
      · subst y; exact absurd (p1 x z) (ir x)
      · exact y
    · intro z
      rcases List.mem_cons.mp (hx.mpr (List.mem_cons_of_mem _ z)) with y | y
      · subst y; exact absurd (q1 x z) (ir x)
      · exact y
theorem MkOk.uniq {S : F2 → Int} {n : Int} {L M : List (F2 × F2)} (h : MkOk S n L) (g : MkOk S n M) : L = M := sorted_same h.pw g.pw fun x => by rw [h.mem x.1 x.2, g.mem x.1 x.2]
theorem lk_some {α : Type} {ks : List (List (List Int))} {vs : List α} {z : α} {V : F2 → α} (h : DcOk ks vs z V) {d : F2} (m : kD d ∈ ks) : lkA ks vs (kD d) = some (V d) := by
  cases e : lkA ks vs (kD d) with
  | none => exact absurd m ((lk_none h.len).mp e)
  | some x => have := h.at_ d; rw [e] at this; rw [← this]; rfl
theorem lk_zero {α : Type} {ks : List (List (List Int))} {vs : List α} {z : α} {V : F2 → α} (h : DcOk ks vs z V) {d : F2} (m : kD d ∉ ks) : V d = z := by
  rw [← h.at_ d, (lk_none h.len).mpr m]; rfl
end Cut
namespace Cut
open PySem L2 L3
open PySem.Builtin.Int (intBits)
theorem back_F {ps : List F2} {i : Nat} (h : i < ps.length) : atI (ps.map dR) ((i : Int) - 1) = some (dR (ps.getD ((i + ps.length - 1) % ps.length) (0, 0))) ∧ atI (ps.map dR) (i : Int) = some (dR (ps.getD i (0, 0))) := by
  have at_ : ∀ j, j < ps.length → (ps.map dR)[j]? = some (dR (ps.getD j (0, 0))) := fun j hj => by simp [hj]
  constructor
  · unfold atI ixN
    rw [List.length_map]
    cases i with
    | zero =>
      rw [if_neg (by omega), if_pos (by omega)]
      show (ps.map dR)[_]? = _
      rw [show ((0 : Nat) : Int) - 1 + (ps.length : Int) = ((ps.length - 1 : Nat) : Int) by omega, Int.toNat_natCast, at_ _ (by omega), Nat.zero_add, Nat.mod_eq_of_lt (show ps.length - 1 < ps.length by omega)]
    | succ j =>
      rw [if_pos (by omega), if_pos (by omega)]
      show (ps.map dR)[_]? = _
      rw [show ((j + 1 : Nat) : Int) - 1 = (j : Int) by omega, Int.toNat_natCast, at_ _ (by omega), show j + 1 + ps.length - 1 = j + ps.length by omega, Nat.add_mod_right, Nat.mod_eq_of_lt (show j < ps.length by omega)]
  · unfold atI ixN
    rw [List.length_map, if_pos (by omega), if_pos (by omega)]
    show (ps.map dR)[_]? = _
    rw [Int.toNat_natCast, at_ _ h]
theorem getD_mem {ps : List F2} {i : Nat} (h : i < ps.length) : ps.getD i (0, 0) ∈ ps := by simp [h]
theorem smR_app (d : F2) (a : RR) (r : List F2) : smR (a ++ [r]) d = smR a d + smD d (sds r) := by
  unfold smR
  rw [List.map_append, List.sum_append]
  simp
end Cut

/-! The program's marks: points over n, sums in lowest form. -/
namespace Cut
open PySem L2 L3
open PySem.Builtin.Int (intBits)
def pN (n : Int) (p : F2) : P3 := npt p.1 p.2 n
theorem step_pN {n : Int} (hn : 0 < n) (p q : F2) : nP (sld (trn (pN n p)) (pN n q)) = npt (q.1 - p.1) (q.2 - p.2) n := by
  obtain ⟨⟨a0, _⟩, a1, a2, _⟩ := npt_spec (a := p.1) (b := p.2) (Int.ne_of_gt hn)
  obtain ⟨⟨b0, _⟩, b1, b2, _⟩ := npt_spec (a := q.1) (b := q.2) (Int.ne_of_gt hn)
  obtain ⟨c0, c1, c2, _⟩ := npt_spec (a := q.1 - p.1) (b := q.2 - p.2) (Int.ne_of_gt hn)
  unfold nP sld trn pN
  generalize npt p.1 p.2 n = P at *
  generalize npt q.1 q.2 n = Q at *
  generalize npt (q.1 - p.1) (q.2 - p.2) n = R at *
  obtain ⟨x, y, z⟩ := P
  obtain ⟨u, v, w⟩ := Q
  obtain ⟨r, s, t⟩ := R
  dsimp only at *
  have zw : w * z ≠ 0 := Int.ne_of_gt (Int.mul_pos b0 a0)
  refine npt_eq c0 zw ?_ ?_
  · refine Int.eq_of_mul_eq_mul_right (Int.ne_of_gt hn) ?_
    have e1 : r * (w * z) * n = (r * n) * (w * z) := by grind
    have e2 : (u * z + -x * w) * t * n = ((u * n) * z - (x * n) * w) * t := by grind
    rw [e1, e2, c1, a1, b1]
    grind
  · refine Int.eq_of_mul_eq_mul_right (Int.ne_of_gt hn) ?_
    have e1 : s * (w * z) * n = (s * n) * (w * z) := by grind
    have e2 : (v * z + -y * w) * t * n = ((v * n) * z - (y * n) * w) * t := by grind
    rw [e1, e2, c2, a2, b2]
    grind
theorem sds_map (f : F2 → P3) (ps : List F2) : (ps.map f).zip ((ps.map f).drop 1 ++ (ps.map f).take 1) = (sds ps).map fun e => (f e.1, f e.2) := by
  unfold sds
  rw [← List.map_drop, ← List.map_take, ← List.map_append, List.zip_map]
  rfl
theorem add_nrat {n : Int} (hn : 0 < n) (s t : Int) : nrat ((nrat s n).1 * (nrat t n).2 + (nrat t n).1 * (nrat s n).2) ((nrat s n).2 * (nrat t n).2) = nrat (s + t) n := by
  obtain ⟨⟨a0, _⟩, a1, _⟩ := nrat_spec (t := s) (Int.ne_of_gt hn)
  obtain ⟨⟨b0, _⟩, b1, _⟩ := nrat_spec (t := t) (Int.ne_of_gt hn)
  generalize nrat s n = S at *
  generalize nrat t n = T at *
  obtain ⟨x, y⟩ := S
  obtain ⟨u, v⟩ := T
  dsimp only at *
  refine nrat_cross (Int.ne_of_gt (Int.mul_pos a0 b0)) (Int.ne_of_gt hn) ?_
  have e1 : (x * v + u * y) * n = (x * n) * v + (u * n) * y := by grind
  rw [e1, a1, b1]
  grind
theorem nrat_nil {n : Int} (hn : 0 < n) : nrat 0 n = (0, 1) := nrat_eq ⟨by decide, by decide⟩ (Int.ne_of_gt hn) (by grind)
theorem nrat_zero_iff {n s : Int} (hn : 0 < n) : nrat s n = (0, 1) ↔ s = 0 := by
  constructor
  · intro h
    obtain ⟨_, a1, _⟩ := nrat_spec (t := s) (Int.ne_of_gt hn)
    rw [h] at a1
    dsimp only at a1
    omega
  · rintro rfl; exact nrat_nil hn
theorem smD_le {d : F2} {M : Int} (h0 : 0 ≤ M) : ∀ {es : List (F2 × F2)}, (∀ e ∈ es, -M ≤ parE e ∧ parE e ≤ M) → -(M * es.length) ≤ smD d es ∧ smD d es ≤ M * es.length
  | [], _ => by simp [smD]
  | e :: es, h => by
    obtain ⟨i1, i2⟩ := smD_le h0 (d := d) (es := es) fun x hx => h x (List.mem_cons_of_mem _ hx)
    obtain ⟨j1, j2⟩ := h e List.mem_cons_self
    have el : M * ((e :: es).length : Int) = M * (es.length : Int) + M := by
      rw [List.length_cons]; push_cast; grind
    rw [el, smD]
    split <;> omega
theorem wpar_le {a b M : Int} (h : a ≠ 0 ∨ b ≠ 0) (a1 : -M ≤ a) (a2 : a ≤ M) (b1 : -M ≤ b) (b2 : b ≤ M) : -M ≤ wpar a b ∧ wpar a b ≤ M := by
  obtain ⟨d1, d2⟩ := wpar_dvd a b
  have key : (wpar a b).natAbs ≤ M.natAbs := by
    rcases h with h | h
    · have := Nat.le_of_dvd (by omega) (Int.natAbs_dvd_natAbs.mpr d1); omega
    · have := Nat.le_of_dvd (by omega) (Int.natAbs_dvd_natAbs.mpr d2); omega
  omega
theorem smR_le {rs : RR} {M : Int} {d : F2} (h0 : 0 ≤ M) : (∀ r ∈ rs, ∀ e ∈ sds r, -M ≤ parE e ∧ parE e ≤ M) → -(M * (rs.map List.length).sum) ≤ smR rs d ∧ smR rs d ≤ M * (rs.map List.length).sum := by
  induction rs with
  | nil => intro _; simp [smR]
  | cons r rs ih =>
    intro h
    obtain ⟨i1, i2⟩ := ih fun x hx => h x (List.mem_cons_of_mem _ hx)
    obtain ⟨j1, j2⟩ := smD_le (d := d) h0 (h r List.mem_cons_self)
    have l : (sds r).length = r.length := by
      unfold sds
      rw [List.length_zip, List.length_append, List.length_drop, List.length_take]; omega
    rw [l] at j1 j2
    have e : smR (r :: rs) d = smD d (sds r) + smR rs d := by unfold smR; rw [List.map_cons, List.sum_cons]
    have el : M * (((r :: rs).map List.length).sum : Int) = M * (r.length : Int) + M * ((rs.map List.length).sum : Int) := by
      rw [List.map_cons, List.sum_cons]; push_cast; grind
    rw [e, el]
    omega
end Cut

/-! A dict's pairs, those that are not 0, put in order. -/
namespace L3
open PySem L2
theorem compG_flt2 {α : Type} {f g h : α → D} {P : α → Bool} {ut : UT} {u : UE} {fs : List Sl} : ∀ {rs : List α} {v0 v1 : Sl} {k : List D → Prop}, (∀ r ∈ rs, ∀ k : Bool → Prop, k (P r) → ut (.val (f r) :: .val (g r) :: fs) k) → (∀ r ∈ rs, ∀ k : D → Prop, k (h r) → u (.val (f r) :: .val (g r) :: fs) k) → k ((rs.filter P).map h) → compG (ugTup 2 (ugCons (ugName 0) (ugCons (ugName 1) ugNil))) ut u (rs.map fun r => .tup [f r, g r]) (v0 :: v1 :: fs) k
  | [], _, _, _, _, _, hk => hk
  | r :: rs, v0, v1, k, h1, h2, hk => by
    refine ⟨_, rfl, rfl, _, _, rfl, _, _, rfl, rfl, ?_⟩
    refine h1 r List.mem_cons_self _ ?_
    cases c : P r with
    | true =>
      rw [if_pos rfl]
      refine h2 r List.mem_cons_self _ ?_
      refine compG_flt2 (P := P) (fun x hx => h1 x (List.mem_cons_of_mem _ hx)) (fun x hx => h2 x (List.mem_cons_of_mem _ hx)) ?_
      rw [List.filter_cons_of_pos c] at hk
      exact hk
    | false =>
      rw [if_neg Bool.false_ne_true]
      refine compG_flt2 (P := P) (fun x hx => h1 x (List.mem_cons_of_mem _ hx)) (fun x hx => h2 x (List.mem_cons_of_mem _ hx)) ?_
      rw [List.filter_cons_of_neg (by rw [c]; decide)] at hk
      exact hk
end L3
namespace Cut
open PySem L2 L3
open PySem.Builtin.Int (intBits)
theorem dc_list {α : Type} {V : F2 → α} : ∀ {ks : List (List (List Int))} {vs : List α}, ks.Nodup → vs.length = ks.length → (∀ k ∈ ks, ∃ d, k = kD d) → (∀ d, kD d ∈ ks → lkA ks vs (kD d) = some (V d)) → ∃ ds : List F2, ks = ds.map kD ∧ vs = ds.map V
  | [], [], _, _, _, _ => ⟨[], rfl, rfl⟩
  | [], _ :: _, _, l, _, _ => by simp at l
  | _ :: _, [], _, l, _, _ => by simp at l
  | k :: ks, v :: vs, nd, l, ky, at_ => by
    obtain ⟨d, rfl⟩ := ky k List.mem_cons_self
    obtain ⟨n1, n2⟩ := List.nodup_cons.mp nd
    have hv := at_ d List.mem_cons_self
    rw [lkA, if_pos rfl] at hv
    obtain ⟨ds, e1, e2⟩ := dc_list (V := V) (ks := ks) (vs := vs) n2 (by simpa using l) (fun x hx => ky x (List.mem_cons_of_mem _ hx)) fun x hx => by
      have := at_ x (List.mem_cons_of_mem _ hx)
      rw [lkA, if_neg (fun z => n1 (by rw [z]; exact hx))] at this
      exact this
    exact ⟨d :: ds, by rw [e1]; rfl, by rw [e2, Option.some.inj hv]; rfl⟩
theorem prD_map (V : F2 → F2) : ∀ ds : List F2, prD false (ds.map kD) ((ds.map V).map dR) = ds.map fun d => .tup [dR d, dR (V d)]
  | [] => rfl
  | d :: ds => by
    rw [List.map_cons, List.map_cons, List.map_cons, List.map_cons, prD, prD_map V ds]
    rfl
def kM (x : F2 × F2) : List (List Int) := [[x.1.1, x.1.2], [x.2.1, x.2.2]]
theorem kM_inj {a b : F2 × F2} (h : kM a = kM b) : a = b := by
  unfold kM at h
  simp at h
  exact Prod.ext (Prod.ext h.1.1 h.1.2) (Prod.ext h.2.1 h.2.2)
/-- marks put in order -/
theorem mk_sort {S : F2 → Int} {n : Int} {ds : List F2} (nd : ds.Nodup) (all : ∀ d, S d ≠ 0 → d ∈ ds) {ks' : List (List (List Int))} (pm : ks'.Perm (((ds.filter fun d => decide (S d ≠ 0)).map fun d => (d, nrat (S d) n)).map kM)) (pw : ks'.Pairwise Ahead) : ∃ L, ks'.map (keyD true) = L.map dMk ∧ MkOk S n L := by
  generalize hX : ((ds.filter fun d => decide (S d ≠ 0)).map fun d => (d, nrat (S d) n)) = X at pm
  have memX : ∀ d r, (d, r) ∈ X ↔ S d ≠ 0 ∧ r = nrat (S d) n := fun d r => by
    rw [← hX]
    simp only [List.mem_map, List.mem_filter, decide_eq_true_eq, Prod.mk.injEq]
    constructor
    · rintro ⟨a, ⟨_, b⟩, rfl, rfl⟩; exact ⟨b, rfl⟩
    · rintro ⟨a, rfl⟩; exact ⟨d, ⟨all d a, a⟩, rfl, rfl⟩
  have ndX : (X.map Prod.fst).Nodup := by
    rw [← hX, List.map_map]
    show List.Nodup (List.map (fun d => d) _)
    rw [List.map_id']
    exact nd.filter _
  obtain ⟨L, rfl⟩ : ∃ L : List (F2 × F2), ks' = L.map kM := by
    have ky : ∀ k ∈ ks', ∃ x, k = kM x := fun k hk => by
      obtain ⟨x, _, e⟩ := List.mem_map.mp (pm.mem_iff.mp hk)
      exact ⟨x, e.symm⟩
    clear pm pw
    induction ks' with
    | nil => exact ⟨[], rfl⟩
    | cons k ks ih =>
      obtain ⟨L, e⟩ := ih fun x hx => ky x (List.mem_cons_of_mem _ hx)
      obtain ⟨x, e2⟩ := ky k List.mem_cons_self
      exact ⟨x :: L, by rw [e, e2]; rfl⟩
  have memL : ∀ x, x ∈ L ↔ x ∈ X := fun x => by
    have a : kM x ∈ L.map kM ↔ x ∈ L := ⟨fun h => by
      obtain ⟨y, hy, e⟩ := List.mem_map.mp h
      rw [← kM_inj e]; exact hy, fun h => List.mem_map.mpr ⟨x, h, rfl⟩⟩
    have b : kM x ∈ X.map kM ↔ x ∈ X := ⟨fun h => by
      obtain ⟨y, hy, e⟩ := List.mem_map.mp h
      rw [← kM_inj e]; exact hy, fun h => List.mem_map.mpr ⟨x, h, rfl⟩⟩
    rw [← a, ← b, pm.mem_iff]
  have ndL : (L.map Prod.fst).Nodup := by
    have e : ∀ Y : List (F2 × F2), (Y.map kM).map (fun k => k.headD []) = (Y.map Prod.fst).map fun d => [d.1, d.2] := fun Y => by
      rw [List.map_map, List.map_map]; rfl
    have p2 := pm.map fun k => k.headD []
    rw [e, e] at p2
    have n2 : ((X.map Prod.fst).map fun d : F2 => [d.1, d.2]).Nodup := List.pairwise_map.mpr (ndX.imp fun {a b} h z => h (by simp at z; exact Prod.ext z.1 z.2))
    have n3 := p2.nodup_iff.mpr n2
    exact (List.pairwise_map.mp n3).imp fun {a b} h z => h (by rw [z])
  refine ⟨L, by rw [List.map_map]; rfl, ?_, fun d r => by rw [memL, memX]⟩
  have pl := List.pairwise_map.mp pw
  have np := List.pairwise_map.mp ndL
  refine (pl.and np).imp fun {a b} h => ?_
  obtain ⟨h1, h2⟩ := h
  have h1 : lexI [b.1.1, b.1.2] [a.1.1, a.1.2] = false := h1
  have ne : [a.1.1, a.1.2] ≠ [b.1.1, b.1.2] := fun z => h2 (by simp at z; exact Prod.ext z.1 z.2)
  exact (lex_total ne).resolve_right (by rw [h1]; simp)
end Cut
namespace L3
open PySem L2
theorem forR_pr2 {α : Type} {f g : α → D} {s : US} {U : UEnds} {i j : Nat} (I : List α → List Sl → Prop) : ∀ {rs done : List α} {ρ : List Sl}, I done ρ →
    (∀ pre e rest ρ, done ++ rs = pre ++ e :: rest → I pre ρ → ∀ N : List Sl → Prop, (∀ r', I (pre ++ [e]) r' → N r') → s { U with nx := N, ct := N, bk := U.nx } ((ρ.set i (.val (f e))).set j (.val (g e)))) → (∀ ρ, I (done ++ rs) ρ → U.nx ρ) →
    forR (ugTup 2 (ugCons (ugName i) (ugCons (ugName j) ugNil))) s U (rs.map fun e => .tup [f e, g e]) ρ
  | [], done, ρ, h0, _, h2 => h2 ρ (by rw [List.append_nil]; exact h0)
  | e :: rs, done, ρ, h0, h1, h2 => by
    refine ⟨_, rfl, rfl, _, _, rfl, _, _, rfl, rfl, h1 done e rs ρ rfl h0 _ fun r' hr => ?_⟩
    have eq : done ++ e :: rs = (done ++ [e]) ++ rs := by simp
    rw [eq] at h1 h2
    exact forR_pr2 I hr h1 h2
end L3
namespace Cut
open PySem L2 L3
open PySem.Builtin.Int (intBits)
theorem sds_tup (n : Int) (r : List F2) : (((r.map (pN n)).zip ((r.map (pN n)).drop 1 ++ (r.map (pN n)).take 1)).map dPr) = (sds r).map fun e => .tup [dP (pN n e.1), dP (pN n e.2)] := by
  rw [sds_map, List.map_map]; rfl
theorem lk_dR (ks : List (List (List Int))) (vs : List F2) (k : List (List Int)) : (lkA ks (vs.map dR) k).getD (.tup [.int 0, .int 1]) = dR ((lkA ks vs k).getD (0, 1)) := by
  rw [lk_map]
  cases lkA ks vs k <;> rfl
end Cut

/-! setdefault of a dict whose keys are tuples. -/
namespace L3
open PySem L2
section
variable {prog : Program} {w : World} {K : Type} [DecidableEq K] {knd : HeapKind prog w K} {A : Around} {E : Value → Shared → Prop} {s : Shared}
end
section
variable {X : Cx} {b : Bool}
end
end L3

/-! Lists of one's own as the values of a dict of one's own: made, put, read, frozen, walked; a def that is handed such a dict. -/
namespace L3
open PySem L2
section
variable {K : PySem.W.Frag} {R : Hp} {W : Addr → Prop} {B B' H H' : Hp} {σ : St} {ρ : List Sl}
theorem set_self {i : Nat} {v : V} (h : σ[i]? = some (some v)) : σ.set i (some v) = σ := by
  apply List.ext_getElem?
  intro j
  by_cases z : i = j
  · subst z
    have lt : i < σ.length := by
      by_cases z : i < σ.length
      · exact z
      · rw [List.getElem?_eq_none (by omega)] at h; cases h
    rw [List.getElem?_set_self lt, h]
  · rw [List.getElem?_set_ne z]
/-- a deep slot's objects are written: another content at the same place -/
theorem Ev.deepW (e : Ev K R W B H σ ρ) {i : Nat} {c c' : Dp} {x : Addr} {o : HO} (ho : ρ[i]? = some (.deep c)) (hx : x ∈ c.adr :: c.ins) (ha : c'.adr = c.adr)
    (sub : ∀ y ∈ c'.ins, y ∈ c.ins) (nd : (c'.adr :: c'.ins).Nodup) (ok : DpO K B (upd H x o) c') : Ev K R W B (upd H x o) σ (ρ.set i (.deep c')) := by
  obtain ⟨d1, d2⟩ := e.deepAt ho
  have hxf := d2.fr x hx
  have nw : ¬ W x := fun z => e.wr x z hxf.1
  have me : MutAt σ ρ i x := .inr ⟨c, ho, hx⟩
  have sub' : ∀ y ∈ c'.adr :: c'.ins, y ∈ c.adr :: c.ins := fun y hy => by
    rcases List.mem_cons.mp hy with z | z
    · rw [z, ha]; exact List.mem_cons_self
    · exact List.mem_cons_of_mem _ (sub y z)
  refine ⟨⟨fun b u q z => ?_, fun b u q => ?_, e.wb, fun b z => ?_, e.wr⟩, by rw [List.length_set]; exact e.len, fun j k q => ?_, fun a b y hy hz => ?_⟩
  · rw [upd_ne (by rintro rfl; rw [hxf.1] at q; cases q)]; exact e.fr b u q z
  · rw [upd_ne (by rintro rfl; rw [hxf.2] at q; cases q)]; exact e.bh b u q
  · exact (e.wh b z).upd (by rintro rfl; exact nw z)
  · rcases getElem?_set_some q with ⟨rfl, rfl⟩ | ⟨n, q⟩
    · exact ⟨by rw [ha, d1]; rfl, fun y hy => d2.fr y (sub' y hy), nd, ok⟩
    · have z := e.ok j k q
      have ne : ∀ y, MutAt σ ρ j y → y ≠ x := fun y m => by rintro rfl; exact n (e.sep j i y m me)
      cases k with
      | no => trivial
      | new d => exact z
      | pin v d => exact z
      | val d => exact z
      | own es =>
        obtain ⟨b, z1, z2, z3, z4⟩ := z
        exact ⟨b, z1, z2, z3, z4.mono (Same.refl _) (upd_ne (ne b (.inl ⟨join_some z1, .inr ⟨es, q⟩⟩)))⟩
      | deep d => exact ⟨z.1, z.2.fr, z.2.nd, z.2.ok.mono (Same.refl _) fun b mb => upd_ne (ne b (.inr ⟨d, q, mb⟩))⟩
      | bag =>
        obtain ⟨b, z1, z2, z3, z4⟩ := z
        exact ⟨b, z1, z2, z3, z4.upd (ne b (.inl ⟨join_some z1, .inl q⟩))⟩
  · have back : ∀ a, MutAt σ (ρ.set i (.deep c')) a y → MutAt σ ρ a y := fun a m => by
      rcases m with ⟨m1, m2⟩ | ⟨d, m1, m2⟩
      · refine .inl ⟨m1, ?_⟩
        rcases m2 with m2 | ⟨es, m2⟩
        · rcases getElem?_set_some m2 with ⟨_, z⟩ | ⟨_, m2⟩
          · cases z
          · exact .inl m2
        · rcases getElem?_set_some m2 with ⟨_, z⟩ | ⟨_, m2⟩
          · cases z
          · exact .inr ⟨es, m2⟩
      · rcases getElem?_set_some m1 with ⟨rfl, z⟩ | ⟨_, m1⟩
        · cases z
          exact .inr ⟨c, ho, sub' y m2⟩
        · exact .inr ⟨d, m1, m2⟩
    exact e.sep a b y (back a hy) (back b hz)
end
section
variable {X : Cx} {b : Bool} {n : Nat} {x : Str} {px pos pos' apos cpos apos2 cpos2 pd pl : Pos} {e f : Expr} {ue uf : UE}
end
/-! ### frozen -/
section
variable {K : PySem.W.Frag} {R : Hp} {W : Addr → Prop} {B B' H H' : Hp} {σ : St} {ρ : List Sl}
theorem Ev.fzIn : ∀ {as : List Addr} {dss : List (List D)} {B : Hp}, Ev K R W B H σ ρ → as.Nodup → InOk K B H as dss → (∀ a ∈ as, R a = none ∧ B a = none ∧ ∀ i, ¬ MutAt σ ρ i a) → ∃ B', Ev K R W B' H σ ρ ∧ Grow R B B' ∧ Reps K B' (as.map V.ref) (dss.map D.lst) ∧ ∀ a, a ∉ as → B' a = B a
  | [], [], B, e, _, _, _ => ⟨B, e, Grow.refl _ _, .nil, fun _ _ => rfl⟩
  | [], _ :: _, _, _, _, h, _ => by have := h.len; simp at this
  | _ :: _, [], _, _, _, h, _ => by have := h.len; simp at this
  | a :: as, ds :: dss, B, e, nd, h, hf => by
    obtain ⟨vs, h1, h2⟩ := h.at_ 0 a ds rfl rfl
    obtain ⟨f1, f2, f3⟩ := hf a List.mem_cons_self
    obtain ⟨e1, g1⟩ := e.freeze h1 f1 f2 f3
    obtain ⟨n1, n2⟩ := List.nodup_cons.mp nd
    have h' : InOk K (upd B a (.lst vs)) H as dss := ⟨by have := h.len; simpa using this, fun i x es hx he => by
      obtain ⟨us, u1, u2⟩ := h.at_ (i + 1) x es (by simpa using hx) (by simpa using he)
      exact ⟨us, u1, u2.mono g1.s⟩⟩
    obtain ⟨B2, e2, g2, r2, o2⟩ := Ev.fzIn e1 n2 h' fun x hx => by
      obtain ⟨q1, q2, q3⟩ := hf x (List.mem_cons_of_mem _ hx)
      exact ⟨q1, by rw [upd_ne (by rintro rfl; exact n1 hx)]; exact q2, q3⟩
    refine ⟨B2, e2, g1.trans g2, .cons (.lst (g2.s _ _ upd_same) (h2.mono (g1.trans g2).s)) r2, fun x hx => ?_⟩
    rw [o2 x fun z => hx (List.mem_cons_of_mem _ z), upd_ne (by rintro rfl; exact hx List.mem_cons_self)]
theorem Ev.fzDL (e : Ev K R W B H σ ρ) {i : Nat} {c : Dp} (ho : ρ[i]? = some (.deep c)) : ∃ B', Grow R B B' ∧ Ev K R W B' H σ (ρ.set i (.val (match c with | .ll _ _ dss => .lst (dss.map D.lst) | .dl b _ ks _ dss => .dct b ks (dss.map D.lst)))) := by
  obtain ⟨d1, d2⟩ := e.deepAt ho
  have f := e.setV (d := .non) i (v := .non) .non
  have me : ∀ x ∈ c.adr :: c.ins, ∀ j, ¬ MutAt (σ.set i (some V.non)) (ρ.set i (.val .non)) j x := fun x hx j m => by
    obtain ⟨n, m⟩ := mut_setV m (by simp) (by simp) rfl
    exact n (e.sep j i x m (.inr ⟨c, ho, hx⟩))
  have lt0 : i < ρ.length := by
    by_cases z : i < ρ.length
    · exact z
    · rw [List.getElem?_eq_none (by omega)] at ho; cases ho
  have fin : ∀ (o : HO) (dss : List (List D)) (d : D), H c.adr = some o → InOk K B H c.ins dss → (∀ B2, Same B B2 → B2 c.adr = some o → Reps K B2 (c.ins.map V.ref) (dss.map D.lst) → Rep K B2 (.ref c.adr) d) → ∃ B', Grow R B B' ∧ Ev K R W B' H σ (ρ.set i (.val d)) := fun o dss d h1 h2 h3 => by
    obtain ⟨n1, n2⟩ := List.nodup_cons.mp d2.nd
    obtain ⟨B2, e2, g2, r2, o2⟩ := f.fzIn n2 h2 fun x hx => ⟨(d2.fr x (List.mem_cons_of_mem _ hx)).1, (d2.fr x (List.mem_cons_of_mem _ hx)).2, me x (List.mem_cons_of_mem _ hx)⟩
    obtain ⟨q1, q2⟩ := d2.fr c.adr List.mem_cons_self
    obtain ⟨e3, g3⟩ := e2.freezeO h1 q1 (by rw [o2 _ n1]; exact q2) (me _ List.mem_cons_self)
    refine ⟨_, g2.trans g3, ?_⟩
    have e4 := e3.setV i (h3 _ (g2.trans g3).s upd_same (r2.mono g3.s))
    rw [List.set_set, List.set_set, set_self d1] at e4
    exact e4
  cases c with
  | ll a as dss => exact fin _ dss _ d2.ok.1 d2.ok.2 fun B2 s h r => .lst h r
  | dl b a ks as dss =>
    obtain ⟨ep, kas, h1, h2, h3, h4⟩ := d2.ok
    exact fin _ dss _ h1 h4 fun B2 s h r => .dct h (h2.mono s) h3 r
end
section
variable {X : Cx} {tg : Expr} {w : UL} {pos : Pos}
end
section
variable {K : PySem.W.Frag}
end
section
variable {X : Cx} {m n : Nat} {x : Str} {px p pos pos2 : Pos} {e : Expr} {es : List Expr} {F : FL} {w : UL}
end
end L3

/-! The ends of sides, noted by points: a dict of lists; when all is even. -/
namespace Cut
open PySem L2 L3
end Cut

/-! Points mixed by weights, triangles about them; rings that are parted so. -/
namespace Cut
open PySem L2 L3
open PySem.Builtin.Int (intBits)
end Cut

/-! x is True, x is not True: of truth values. -/
namespace L3
open PySem L2
section
variable {X : Cx} {a b : Expr} {ua ub : UE} {pos : Pos}
end
end L3

/-! What is balanced has one area, also of what lies far off; moments. -/
namespace Cut
open PySem L2 L3
open PySem.Builtin.Int (intBits)
section
variable (Φ : List (List Int) → Rat)
end
end Cut

/-! Rings drawn in a box, parted into triangles, spread. -/
namespace Cut
open PySem L2 L3
open PySem.Builtin.Int (intBits)
end Cut

/-! A plan by hand, its moves in another order, their rings begun at another corner. -/
namespace Cut
open PySem L2 L3
open PySem.Builtin.Int (intBits)
end Cut

/-! Moments: what is balanced has one middle. -/
namespace Cut
open PySem L2 L3
open PySem.Builtin.Int (intBits)
end Cut

/-! max and min of a list of ints. -/
namespace L2
open PySem PySem.Spec PyProof.Rows PySem.W
section
variable {X : Cx}
end
end L2
namespace L3
open PySem L2
section
variable {X : Cx} {e : Expr} {u : UE} {pos p : Pos}
end
end L3

/-! Plans spoiled; plans led back; rings parted often. -/
namespace Cut
open PySem L2 L3
open PySem.Builtin.Int (intBits)
end Cut

/-! Triangles of which no two have a point within them in common. -/
namespace Cut
open PySem L2 L3
open PySem.Builtin.Int (intBits)
end Cut

/-! A move spoiled: what is no plan any longer. -/
namespace Cut
open PySem L2 L3
open PySem.Builtin.Int (intBits)
end Cut

/-! How often a ring goes round a point: what is balanced goes round it as often. -/
namespace Cut
open PySem L2 L3
open PySem.Builtin.Int (intBits)
end Cut

/-! A cloth with a hole, or with a bulge inward. -/
namespace Cut
open PySem L2 L3
open PySem.Builtin.Int (intBits)
end Cut

/-! The three cases of a cloth with a hole or a bulge inward. -/
namespace Cut
open PySem L2 L3
open PySem.Builtin.Int (intBits)
end Cut

/-! Cloths with a hole, in numbers. -/
namespace Cut
open PySem L2 L3
open PySem.Builtin.Int (intBits)
section
variable {a b c p : P3}
end
end Cut

/-! Areas told, so much less. -/
namespace Cut
open PySem L2 L3
open PySem.Builtin.Int (intBits)
end Cut

/-! Where a point stands: crossings counted, and how often it is gone round. -/
namespace Cut
open PySem L2 L3
open PySem.Builtin.Int (intBits)
end Cut

/-! Areas of rings added up: values and sizes. -/
namespace Cut
open PySem L2 L3
open PySem.Builtin.Int (intBits)
end Cut

/-! Scopes within scopes; rings of told moves emptied by a loop over triples; what is copied ahead of it stays. -/
namespace L2
open PySem PySem.Spec PyProof.Rows
section
variable {X : Cx}
end
end L2
namespace L3
open PySem L2
section
variable {K : PySem.W.Frag} {X : Cx} {e : Expr} {es : List Expr} {u : UE} {w : UL} {pos p : Pos} {rest : List Stmt} {uz : UZ2}
end
end L3

/-! Rings as led lie apart: an upright line between any two. Led back twice it is as ahead. -/
namespace Cut
open PySem L2 L3
end Cut

/-! A list of lists of one's own: made by a comprehension, one of them given a name and added to. -/
namespace L2
open PySem PySem.Spec PyProof.Rows
section
variable {X : Cx}
def insAt {α : Type} (k : Nat) (y : α) (xs : List α) : List α := xs.take k ++ y :: xs.drop k
def rInsert : V → List V → Hp → VK → Prop := fun x vs H Q => ∃ l xs i k y, x = .ref l ∧ vs = [.int i, y] ∧ H l = some (.lst xs) ∧ i = (k : Nat) ∧ k ≤ xs.length ∧ xs.length < sizeLine ∧ Q .non (upd H l (.lst (insAt k y xs)))
theorem Vals.ins : ∀ {xs : List V} {us : List Value} (k : Nat) {y : V} {u : Value}, Vals xs us → RelV y u → Vals (insAt k y xs) (insAt k u us)
  | _, _, 0, _, _, h, r => .cons r h
  | _, _, k + 1, _, _, .nil, r => .cons r .nil
  | _, _, k + 1, _, _, .cons a h, r => .cons a (Vals.ins k h r)
theorem mt_insert : MtM X "list.insert" rInsert := by
  intro pins s σ H x vs v us Q I rx rv h
  obtain ⟨l, xs, i, k, y, rfl, rfl, hH, hi, hk, hz, q⟩ := h
  cases rx
  obtain ⟨u, w, rfl, ru, rw'⟩ := Vals.two rv
  obtain ⟨t, rfl⟩ := ru
  obtain ⟨z, its, n, r, hl, e⟩ := I.lstM hH
  have fit : ¬ (!Builtin.List.listFitsIndex i) = true := by
    have big : sizeLine ≤ 9223372036854775807 := by decide
    have := fitsIndex_both (k := i) (by omega) (by omega)
    rw [this]; simp
  have sz : its.toArray.size ≤ sizeLine := by rw [List.size_toArray]; omega
  have mt := PySem.AutoSeq1.list_insert_list_int_val_1 l its.toArray n i t w fit sz
  refine call_meets PySem.F.slot_list_insert ⟨_, e, rfl⟩ PySem.F.entry_list_insert (PySem.F.args_list_insert_3 _ _ _) mt ⟨e, ?_⟩
  refine ⟨.non, _, I.lset (its' := insAt k w its) hH e ?_ (Vals.ins k r rw') ?_, rfl, q⟩
  · subst hi
    have nk : ¬ ((k : Int) < 0) := by omega
    have mk : min k its.length = k := by omega
    simp only [nk, if_false, Int.toNat_natCast, List.size_toArray, mk]
    unfold insAt
    simp
    exact List.take_of_length_le (by rw [List.length_drop]; exact Nat.le_refl _)
  · unfold insAt
    rw [List.length_append, List.length_cons, List.length_take, List.length_drop]
    omega
end
end L2
namespace L3
open PySem L2
def compLL (g : UG) (ut : UT) (u : UL) : List D → List Sl → (List (List D) → Prop) → Prop
  | [], _, k => k []
  | d :: ds, ρ, k => g d ρ fun ρ1 => ut ρ1 fun b => if b = true then u ρ1 fun y => compLL g ut u ds ρ1 fun ys => k (y :: ys) else compLL g ut u ds ρ1 k
def uCompLL (w : UL) (g : UG) (ut : UT) (u : UL) (nt : Nat) (js : List Nat) : List Sl → (List (List D) → Prop) → Prop := fun ρ k => w ρ fun ds => ds.length ≤ sizeLine ∧ compLL g ut u ds (List.replicate nt .no ++ js.map (frS ρ)) k
section
variable {K : PySem.W.Frag} {X : Cx} {e : Expr} {es : List Expr} {u : UE} {w : UL} {pos p : Pos}
theorem refCompLL {ul : UL} {wi : TI} {g : TG} {tt : TT} {te : TE} {ug : UG} {ut : UT} {nt : Nat} {js : List Nat} (h0 : RefI K wi w) (hg : RefG K g ug) (ht : RefT K tt ut) (h1 : RefO K te ul) (hnd : js.Nodup) {ρ : List Sl} {k : List (List L3.D) → Prop} (h : uCompLL w ug ut ul nt js ρ k) {R : Hp} {W : Addr → Prop} {B H : Hp} {σ : St} {Q : VK} (e : Ev K R W B H σ ρ)
    (q : ∀ dss D as B' H', k dss → Ev K R W B' H' σ ρ → Grow R B B' → (D :: as).Nodup → (∀ a ∈ D :: as, R a = none ∧ B' a = none ∧ ∀ i, ¬ MutAt σ ρ i a) → H' D = some (.lst (as.map V.ref)) → InOk K B' H' as dss → Q (.ref D) H') : tCompG wi g tt te nt js σ H Q := by
  refine h0 ρ _ h R W B H σ _ e fun ds J B1 H1 z1 e1 g1 it => ?_
  obtain ⟨hl, z1⟩ := z1
  intro D hD
  obtain ⟨f1, f2, f3⟩ := e1.toWd.fresh hD
  have nm1 : ∀ i, ¬ MutAt σ ρ i D := fun i m => e1.notNew hD m rfl
  have ei := e1.within nt hnd
  have hmi : ∀ j a, MutAt (List.replicate nt none ++ freeV σ js) (List.replicate nt .no ++ js.map (frS ρ)) j a → ∃ j, j ∈ js ∧ σ[j]? = some (some (V.ref a)) ∧ ρ[j]? = some Sl.bag := fun j a m => by
    have q2 := (ei.mutOk m).2
    rcases m with ⟨m1, z | ⟨es, z⟩⟩ | ⟨c, z, mc⟩
    · obtain ⟨c, c1, c2, _⟩ := ei.bagAt z
      rw [m1] at c1; cases c1
      rcases c2 with c2 | c2
      · exact c2
      · exact absurd c2 q2
    · obtain ⟨c, c1, c2, _⟩ := ei.ownC z
      rw [m1] at c1; cases c1
      exact absurd c2 q2
    · exact absurd ((ei.deepAt z).2.fr a mc).1 q2
  generalize hWW : (fun a => ∃ j, j ∈ js ∧ σ[j]? = some (some (V.ref a)) ∧ ρ[j]? = some Sl.bag) = WW at ei
  have hmi : ∀ j a, MutAt (List.replicate nt none ++ freeV σ js) (List.replicate nt .no ++ js.map (frS ρ)) j a → WW a := fun j a m => by rw [← hWW]; exact hmi j a m
  have hW : ∀ a, WW a → ∃ i : Nat, σ[i]? = some (some (.ref a)) ∧ ρ[i]? = some .bag := fun a z => by
    rw [← hWW] at z
    obtain ⟨j, _, z⟩ := z
    exact ⟨j, z⟩
  have nWD : ¬ WW D := fun z => by
    obtain ⟨i', y1, y2⟩ := hW D z
    exact nm1 i' (.inl ⟨y1, .inl y2⟩)
  refine ⟨fun i m σi H' => ∃ B' as dss ρi, m = ds.length - i ∧ i ≤ ds.length ∧ Ev K H1 WW B' H' σi ρi ∧ Grow H1 B1 B' ∧ H' D = some (.lst (as.map V.ref)) ∧ B' D = none ∧ (∀ j a, MutAt σi ρi j a → WW a) ∧ as.length ≤ i ∧ InOk K B' H' as dss ∧ (D :: as).Nodup ∧ (∀ a ∈ as, H1 a = none ∧ B' a = none) ∧ compLL ug ut ul (ds.drop i) ρi fun r => k (dss ++ r),
    ⟨ds.length, B1, [], [], _, by simp, Nat.zero_le _, ei.allocH hD _, Grow.refl _ _, upd_same, f3, hmi, Nat.le_refl _, ⟨rfl, fun i a ds z => by simp at z⟩, by simp, fun a z => by simp at z, by simpa using z1⟩, ?_⟩
  rintro i m σi H2 ⟨B2, as, dss, ρi, rfl, hi, e2, g2, hy, hb, hnm, hyl, ino, nd, fr, z2⟩
  obtain ⟨t1, t2, t3⟩ := it H2 (g2.s.trans e2.bh) i
  by_cases hlt : i < ds.length
  · refine .inr ⟨t1 hlt, fun x H' y => ?_⟩
    obtain ⟨rfl, d, hd, rx⟩ := t3 x H' hlt y
    have ed : ds.drop i = d :: ds.drop (i + 1) := by
      rw [List.drop_eq_getElem_cons hlt]
      rw [List.getElem?_eq_getElem hlt] at hd
      rw [Option.some.inj hd]
    rw [ed] at z2
    refine hg d ρi _ z2 H1 WW B2 H' σi x _ e2 (rx.mono g2.s) fun ρ3 σ3 z3 e3 mm => ?_
    have hnm3 : ∀ j a, MutAt σ3 ρ3 j a → WW a := fun j a m => hnm j a (mm j a m)
    have bN : ∀ {B4 : Hp} {x : Addr}, Grow H' B2 B4 → B2 x = none → H' x ≠ none → B4 x = none := fun {B4 x} g4 hx hx' => by
      cases qd : B4 x with
      | none => rfl
      | some o =>
        rcases g4.n x o qd with z | z
        · rw [hx] at z; cases z
        · exact absurd z hx'
    have hDn : H' D ≠ none := by rw [hy]; simp
    have nWa : ∀ a ∈ as, ¬ WW a := fun a ha z => e2.wr a z (fr a ha).1
    refine ht ρ3 _ z3 H' WW B2 H' σ3 _ (e3.rebase hnm3) fun b B4 H4 z4 e4 g4 => ?_
    have hD4 : H4 D = some (.lst (as.map V.ref)) := e4.fr D _ hy nWD
    have keep : ∀ {B5 H5 : Hp}, (∀ a o, H' a = some o → ¬ WW a → H5 a = some o) → Same B2 B5 → InOk K B5 H5 as dss := fun {B5 H5} k1 k2 => ⟨ino.len, fun i a es h1 h2 => by
      obtain ⟨vs, q1, q2⟩ := ino.at_ i a es h1 h2
      exact ⟨vs, k1 a _ q1 (nWa a (List.mem_of_getElem? h1)), q2.mono k2⟩⟩
    cases b with
    | false =>
      rw [if_neg Bool.false_ne_true] at z4 ⊢
      obtain ⟨e5, g5⟩ := e3.unbase hnm3 e4 g4
      exact ⟨ds.length - (i + 1), by omega, B4, as, dss, ρ3, rfl, hlt, e5, g2.trans g5, hD4, bN g4 hb hDn, hnm3, by omega, keep e4.fr g4.s, nd, fun a ha => ⟨(fr a ha).1, bN g4 (fr a ha).2 (ino.ne ha)⟩, z4⟩
    | true =>
      rw [if_pos rfl] at z4 ⊢
      refine h1 ρ3 _ z4 H' WW B4 H4 σ3 _ e4 fun ys a vs B5 H5 z5 e5 g5 k1 k2 k3 k4 k5 => ?_
      have g45 := g4.trans g5
      have hD5 : H5 D = some (.lst (as.map V.ref)) := e5.fr D _ hy nWD
      obtain ⟨e6, g6⟩ := e3.unbase hnm3 e5 g45
      have aD : a ≠ D := by rintro rfl; exact hDn k1
      have aas : a ∉ as := fun z => ino.ne z k1
      have a1 := e2.toWd.fresh k1
      refine ⟨as.map V.ref, hD5, by rw [List.length_map]; omega, ds.length - (i + 1), by omega, B5, as ++ [a], dss ++ [ys], ρ3, rfl, hlt, e6.scribble hD (bN g45 hb hDn) (fun j m => nWD (hnm3 j D m)) _, g2.trans g6, ?_, bN g45 hb hDn, hnm3, by rw [List.length_append, List.length_singleton]; omega, ?_, ?_, ?_, ?_⟩
      · rw [List.map_append]; exact upd_same
      · have kp := keep (B5 := B5) (H5 := H5) e5.fr g45.s
        refine ⟨by rw [List.length_append, List.length_append, ino.len]; rfl, fun j x es hx he => ?_⟩
        by_cases z : j < as.length
        · rw [List.getElem?_append_left z] at hx
          rw [List.getElem?_append_left (by rw [← ino.len]; exact z)] at he
          obtain ⟨us, u1, u2⟩ := kp.at_ j x es hx he
          refine ⟨us, ?_, u2⟩
          rw [upd_ne (by rintro rfl; exact (List.nodup_cons.mp nd).1 (List.mem_of_getElem? hx))]
          exact u1
        · rw [List.getElem?_append_right (by omega)] at hx
          rw [List.getElem?_append_right (by rw [← ino.len]; omega), ← ino.len] at he
          have j0 : j - as.length = 0 := by
            by_cases y : j - as.length = 0
            · exact y
            · rw [List.getElem?_eq_none (by simp; omega)] at hx; cases hx
          rw [j0] at hx he
          cases hx
          cases he
          exact ⟨vs, by rw [upd_ne aD]; exact k3, k4⟩
      · obtain ⟨n1, n2⟩ := List.nodup_cons.mp nd
        refine List.nodup_cons.mpr ⟨fun z => ?_, ?_⟩
        · rcases List.mem_append.mp z with z | z
          · exact n1 z
          · exact aD (List.mem_singleton.mp z).symm
        · refine List.nodup_append.mpr ⟨n2, by simp, fun x hx y hy => ?_⟩
          rw [List.mem_singleton.mp hy]
          rintro rfl
          exact aas hx
      · intro x hx
        rcases List.mem_append.mp hx with hx | hx
        · exact ⟨(fr x hx).1, bN g45 (fr x hx).2 (ino.ne hx)⟩
        · rw [List.mem_singleton.mp hx]; exact ⟨a1.1, k2⟩
      · simpa [List.append_assoc] using z5
  · have eq : i = ds.length := by omega
    subst eq
    rw [List.drop_length] at z2
    obtain ⟨e4, g4⟩ := e1.after hW e2.toWd g2
    refine .inl ⟨t2 (Nat.le_refl _), q _ D as B2 H2 (by simpa [compLL] using z2) e4 (g1.trans g4) nd (fun a ha => ?_) hy ino⟩
    rcases List.mem_cons.mp ha with rfl | ha
    · exact ⟨f1, hb, nm1⟩
    · obtain ⟨y1, y2, y3⟩ := e1.toWd.fresh (fr a ha).1
      exact ⟨y1, (fr a ha).2, fun i m => e1.notNew (fr a ha).1 m rfl⟩
end
end L3

/-! Rules: a list of lists of one's own. -/
namespace L3
open PySem L2
section
variable {K : PySem.W.Frag} {X : Cx} {R : Hp} {W : Addr → Prop} {B H : Hp} {σ : St} {ρ : List Sl}
theorem joinO {elt : Expr} {ul : UL} {α : Type} {Xs : α → Cx} (hK : ∀ a, (Xs a).K = K) (h : ∀ a, PO3 (Xs a) elt ul) : ∃ t, (∀ a, PE (Xs a) elt t) ∧ RefO K t ul := by
  refine ⟨fun σ H Q => ∀ a, ∃ t, PE (Xs a) elt t ∧ RefO K t ul ∧ t σ H Q, fun a pins s σ H Q I q => ?_, fun ρ k q R W B H σ Q e z a => ?_⟩
  · obtain ⟨t, ht, _, hq⟩ := q a
    exact ht pins s σ H Q I hq
  · obtain ⟨t, ht, hr⟩ := h a
    rw [hK a] at hr
    exact ⟨t, ht, hr, hr ρ k q R W B H σ Q e z⟩
def uSetLL (i : Nat) (c : List Sl → (List (List D) → Prop) → Prop) : US := fun U ρ => c ρ fun dss => ∀ a as, U.nx (ρ.set i (.deep (.ll a as dss)))
theorem s_compLL {elt iter tg : Expr} {ifs : List Expr} {scope : Scope} {cl : List (Str × Addr)} {ts fr : List Str} {js : List Nat} {ug : UG} {ut : UT} {ul w : UL} {pos : Pos} {i : Nat} {y : Str} {py spos : Pos} (hN : X.N.Nodup) (hiN : X.N[i]? = some y) (hy : X.env.scope.names.lookup y = some .local)
    (hi : PI3 X tg iter w) (hg : ∀ C s H ex, PG3 (compCx X (ts ++ fr) scope cl C s H ex) tg ug) (hts : ∀ C s H ex, PIfs3 (compCx X (ts ++ fr) scope cl C s H ex) ifs ut) (helt : ∀ C s H ex, PO3 (compCx X (ts ++ fr) scope cl C s H ex) elt ul)
    (F : FreeOk X scope cl fr js) (hjn : js.Nodup := by decide) (hc : X.calm = true := by rfl) (hs : ∀ v, foldedSetIterable iter X.env v = pure v := by intro _; rfl)
    (hsw : swapsWith (.ListComp elt [⟨tg, iter, ifs, 0⟩] scope pos) (some (.Name y py)) spos.line X.env = pure true := by rfl) :
    PS3 X (.Assign [.Name y py] (.ListComp elt [⟨tg, iter, ifs, 0⟩] scope pos) spos) (uSetLL i (uCompLL w ug ut ul ts.length js)) := by
  obtain ⟨_, h0, r0⟩ := hi
  obtain ⟨tg', hg', rg⟩ := joinG (K := X.K) (Xs := fun a : Addr × Shared × Hp × List Addr => compCx X (ts ++ fr) scope cl a.1 a.2.1 a.2.2.1 a.2.2.2) (fun _ => rfl) fun a => hg a.1 a.2.1 a.2.2.1 a.2.2.2
  obtain ⟨tt, ht', rt⟩ := joinI (K := X.K) (Xs := fun a : Addr × Shared × Hp × List Addr => compCx X (ts ++ fr) scope cl a.1 a.2.1 a.2.2.1 a.2.2.2) (fun _ => rfl) fun a => hts a.1 a.2.1 a.2.2.1 a.2.2.2
  obtain ⟨te, he', re⟩ := joinO (K := X.K) (Xs := fun a : Addr × Shared × Hp × List Addr => compCx X (ts ++ fr) scope cl a.1 a.2.1 a.2.2.1 a.2.2.2) (fun _ => rfl) fun a => helt a.1 a.2.1 a.2.2.1 a.2.2.2
  refine ⟨_, ps_compA hN hiN hy h0 (fun C s H ex => hg' (C, s, H, ex)) (fun C s H ex => ht' (C, s, H, ex)) (fun C s H ex => he' (C, s, H, ex)) F hc hs hsw, fun U ρ h R W B H σ E e s => ?_⟩
  refine refCompLL r0 rg rt re hjn h e fun dss D as B1 H1 z1 e1 g1 nd f hD ino => ?_
  refine s.nx _ _ B1 H1 (z1 D as) (e1.set i ⟨rfl, fun a ha => ⟨(f a ha).1, (f a ha).2.1⟩, nd, hD, ino⟩ (fun a _ z => by rcases z with z | ⟨_, z⟩ <;> cases z) fun a ha j _ m => ?_) g1
  exact (f a (by simpa [Sl.adrs, Dp.adr, Dp.ins] using ha)).2.2 j m
/-! ### shown as plain lists -/
def shwL (m : Nat) (dss : List (List D)) (ρ : List Sl) : List Sl := ρ.set m (.val (.lst (dss.map D.lst)))
def shwA (m r : Nat) (dss : List (List D)) (ds : List D) (ρ : List Sl) : List Sl := (shwL m dss ρ).set r (.val (.lst ds))
theorem frW_set {i : Nat} {d : D} (h : ρ[i]? ≠ some .bag) {a : Addr} : frW W σ (ρ.set i (.val d)) a ↔ frW W σ ρ a := by
  unfold frW
  constructor
  · rintro (z | ⟨j, z1, z2⟩)
    · exact .inl z
    · rcases getElem?_set_some z2 with ⟨_, q⟩ | ⟨_, q⟩
      · cases q
      · exact .inr ⟨j, z1, q⟩
  · rintro (z | ⟨j, z1, z2⟩)
    · exact .inl z
    · refine .inr ⟨j, z1, ?_⟩
      rw [List.getElem?_set_ne (by rintro rfl; exact h z2)]
      exact z2
theorem Ev.showL (e : Ev K R W B H σ ρ) {m : Nat} {a : Addr} {as : List Addr} {dss : List (List D)} (ho : ρ[m]? = some (.deep (.ll a as dss))) : ∃ B', Ev K R W B' H σ (shwL m dss ρ) := by
  obtain ⟨B', _, e'⟩ := e.fzDL ho
  exact ⟨B', e'⟩
theorem Ev.showA (e : Ev K R W B H σ ρ) {m r j : Nat} {a aj : Addr} {as : List Addr} {dss : List (List D)} {ds : List D} (ho : ρ[m]? = some (.deep (.ll a as dss))) (hj : as[j]? = some aj) (hd : dss[j]? = some ds) (hr : σ[r]? = some (some (.ref aj))) : ∃ B', Ev K R W B' H σ (shwA m r dss ds ρ) := by
  obtain ⟨B', e'⟩ := e.showL ho
  refine ⟨B', ?_⟩
  have lt0 : m < ρ.length := by
    by_cases z : m < ρ.length
    · exact z
    · rw [List.getElem?_eq_none (by omega)] at ho; cases ho
  obtain ⟨d1, d2⟩ := e.deepAt ho
  obtain ⟨v, hv, rv⟩ := e'.val (i := m) (d := .lst (dss.map D.lst)) (by unfold shwL; rw [List.getElem?_set_self lt0])
  rw [d1] at hv
  cases hv
  obtain ⟨a', vs, q, ha, rs⟩ := rv.lst_of
  cases q
  have h1 := e'.bh _ _ ha
  rw [show H (Dp.adr (.ll a as dss)) = some (.lst (as.map V.ref)) from d2.ok.1] at h1
  cases h1
  have hv' : (as.map V.ref)[j]? = some (.ref aj) := by rw [List.getElem?_map, hj]; rfl
  obtain ⟨d0, hd0, r0⟩ := rs.getV hv'
  rw [List.getElem?_map, hd] at hd0
  cases hd0
  have := e'.setV r r0
  rw [set_self hr] at this
  exact this
/-- back from what was shown -/
theorem Ev.back (e : Ev K R W B H σ ρ) {ρ' : List Sl} (hfr : ∀ a, frW W σ ρ' a ↔ frW W σ ρ a) {B3 H3 : Hp} (wd : Wd H (frW W σ (ρ'.map unold)) B3 H3) : Ev K R W B H3 σ ρ :=
  e.unframe (fun a o h nw => wd.fr a o h fun z => nw ((hfr a).mp (unold_frW.mp z))) fun a h => wd.wh a (unold_frW.mpr ((hfr a).mpr h))
theorem nb_deep {m : Nat} {c : Dp} (h : ρ[m]? = some (.deep c)) : ρ[m]? ≠ some .bag := by rw [h]; simp
def utShow (m : Nat) (uc : UT) : UT := fun ρ k => ∃ a as dss, ρ[m]? = some (.deep (.ll a as dss)) ∧ uc ((shwL m dss ρ).map look) k
theorem t_show (m : Nat) {c : Expr} {uc : UT} (h : PT3 X c uc) : PT3 X c (utShow m uc) := by
  obtain ⟨_, h1, r1⟩ := h
  refine ⟨_, h1, fun ρ k h R W B H σ Q e q => ?_⟩
  obtain ⟨a, as, dss, ho, h⟩ := h
  obtain ⟨B', e'⟩ := e.showL ho
  refine r1 _ _ h _ _ _ _ _ _ e'.lookF fun b B2 H2 z e2 g => ?_
  exact q b B H2 z (e.back (fun a => frW_set (nb_deep ho)) e2.toWd) (Grow.refl _ _)
def uFzLL (i : Nat) (s : US) : US := fun U ρ => ∃ a as dss, ρ[i]? = some (.deep (.ll a as dss)) ∧ s U (shwL i dss ρ)
theorem s_fzLL {st : List Stmt} {s : US} (i : Nat) (h : PSs3 X st s) : PSs3 X st (uFzLL i s) := by
  obtain ⟨_, h1, r1⟩ := h
  refine ⟨_, h1, fun U ρ h R W B H σ D e sm => ?_⟩
  obtain ⟨a, as, dss, ho, z⟩ := h
  obtain ⟨B', g, e'⟩ := e.fzDL ho
  exact r1 U _ z R W B' H σ D e' (sm.grow g)
/-! ### one of the lists, by a name -/
abbrev UBk := UEnds → List Sl → List (List D) → Nat → Prop
def RefBk (K : PySem.W.Frag) (m r : Nat) (t : TS) (ub : UBk) : Prop := ∀ (U : UEnds) (ρ : List Sl) (dss : List (List D)) (j : Nat), ub U ρ dss j → ∀ (a : Addr) (as : List Addr) (aj : Addr), ρ[m]? = some (.deep (.ll a as dss)) → as[j]? = some aj → ρ[r]? = some .no →
  ∀ (R : Hp) (W : Addr → Prop) (B H : Hp) (σ : St) (E : Ends), Ev K R W B H σ ρ → Sim K R W B U E → σ[r]? = some (some (.ref aj)) → t E σ H
def PBk (X : Cx) (m r : Nat) (st : List Stmt) (ub : UBk) : Prop := ∃ t, PSs X st t ∧ RefBk X.K m r t ub
variable {rest : List Stmt} {e : Expr} {u u2 : UE} {ub : UBk} {m r : Nat} {pos : Pos}
/-- the name given: r = m[e] -/
def uBkS (m r : Nat) (u : UE) (ub : UBk) : US := fun U ρ => r < ρ.length ∧ ∃ a as dss, ρ[m]? = some (.deep (.ll a as dss)) ∧ u ((shwL m dss ρ).map look) fun d => ∃ k j, d = .int k ∧ ixN dss.length k = some j ∧ ub U (ρ.set r .no) dss j
theorem bk_start {x y : Str} {px py p2 : Pos} (hN : X.N.Nodup) (hm : X.N[m]? = some x) (hr' : X.N[r]? = some y) (hx : Vis X.env.scope x) (hy : Loc X.env.scope y) (he : PE3 X e u) (hr : PBk X m r rest ub) (mr : m ≠ r := by decide)
    (hpl : PlainIx e := by exact fun _ _ => rfl) (hd : (x == ("__debug__" : Str)) = false := by decide) (hcd : (x == ("__classdict__" : Str)) = false := by decide) (hs : swapsWith (.Subscript (.Name x px) e p2) (some (.Name y py)) pos.line X.env = pure false := by rfl)
    (hf : X.fn y = true ∨ X.env.scope.names.lookup y = some .local := by first | exact .inl rfl | exact .inr rfl | assumption) :
    PSs3 X (.Assign [.Name y py] (.Subscript (.Name x px) e p2) pos :: rest) (uBkS m r u ub) := by
  obtain ⟨_, h1, r1⟩ := he; obtain ⟨_, h2, r2⟩ := hr
  refine ⟨_, pss_cons (ps_set hN hr' hy (pe_ix ix_any (pe_var hm hx hd hcd) h1 hpl) hs hf) h2, fun U ρ h R W B H σ E e sm => ?_⟩
  obtain ⟨lr0, a, as, dss, ho, h⟩ := h
  obtain ⟨d1, d2⟩ := e.deepAt ho
  obtain ⟨B', e'⟩ := e.showL ho
  refine ⟨_, d1, ?_⟩
  refine r1 _ _ h _ _ _ _ _ _ e'.lookF fun d v B2 H2 z e2 g s2 => ?_
  obtain ⟨k, j, rfl, hj, z⟩ := z
  have e3 := e.back (fun a => frW_set (nb_deep ho)) e2.toWd
  obtain ⟨d3, d4⟩ := e3.deepAt ho
  have hl := d4.ok.2.len
  obtain ⟨_, lt, _, _⟩ := ixN_seq hj
  have la : j < as.length := by rw [hl]; exact lt
  have at1 : atI (as.map V.ref) k = some (V.ref as[j]) := by
    unfold atI
    rw [List.length_map, hl, hj]
    show (as.map V.ref)[j]? = _
    rw [List.getElem?_map, List.getElem?_eq_getElem la]; rfl
  refine ⟨_, _, k, _, rfl, s2.intV, .inr d4.ok.1, at1, ?_⟩
  have lr : r < σ.length := by rw [e.len]; exact lr0
  refine r2 U _ dss j z a as as[j] (by rw [List.getElem?_set_ne (Ne.symm mr)]; exact ho) (List.getElem?_eq_getElem la) (by rw [List.getElem?_set_self (by rw [← e.len]; exact lr)]) R W B H2 _ E (e3.no r) sm (by rw [List.getElem?_set_self lr])
/-- n = an int -/
def uBkN (m r n : Nat) (u : UE) (ub : UBk) : UBk := fun U ρ dss j => ∃ ds, dss[j]? = some ds ∧ u ((shwA m r dss ds ρ).map look) fun d => ∃ z, d = .int z ∧ ub U (ρ.set n (.val (.int z))) dss j
theorem bk_set {n : Nat} {y : Str} {py : Pos} (hN : X.N.Nodup) (hn : X.N[n]? = some y) (hy : Loc X.env.scope y) (he : PE3 X e u) (hr : PBk X m r rest ub) (nm : n ≠ m := by decide) (nr : n ≠ r := by decide) (mr : m ≠ r := by decide)
    (hs : swapsWith e (some (.Name y py)) pos.line X.env = pure false := by rfl) (hf : X.fn y = true ∨ X.env.scope.names.lookup y = some .local := by first | exact .inl rfl | exact .inr rfl | assumption) :
    PBk X m r (.Assign [.Name y py] e pos :: rest) (uBkN m r n u ub) := by
  obtain ⟨_, h1, r1⟩ := he; obtain ⟨_, h2, r2⟩ := hr
  refine ⟨_, pss_cons (ps_set hN hn hy h1 hs hf) h2, fun U ρ dss j h a as aj ho hj hr R W B H σ E e sm hσ => ?_⟩
  obtain ⟨ds, hd, h⟩ := h
  obtain ⟨B', e'⟩ := e.showA ho hj hd hσ
  refine r1 _ _ h _ _ _ _ _ _ e'.lookF fun d v B2 H2 z e2 g s2 => ?_
  obtain ⟨z0, rfl, z⟩ := z
  have hb : ∀ a, frW W σ (shwA m r dss ds ρ) a ↔ frW W σ ρ a := fun a => by
    refine (frW_set ?_).trans (frW_set (nb_deep ho))
    unfold shwL
    rw [List.getElem?_set_ne mr, hr]; simp
  have e3 := e.back hb e2.toWd
  have hv := s2.intV
  subst hv
  refine r2 U _ dss j z a as aj (by rw [List.getElem?_set_ne nm]; exact ho) hj (by rw [List.getElem?_set_ne nr]; exact hr) R W B H2 _ E (e3.setV n (.int _)) sm (by rw [List.getElem?_set_ne nr]; exact hσ)
/-- r.insert(e, e2) -/
def uBkI (m r : Nat) (u u2 : UE) (ur : US) : UBk := fun U ρ dss j => u ρ fun d1 => u2 ρ fun d2 => ∃ (k : Nat) (ds : List D) (a : Addr) (as : List Addr), d1 = .int k ∧ dss[j]? = some ds ∧ k ≤ ds.length ∧ ds.length < sizeLine ∧ ρ[m]? = some (.deep (.ll a as dss)) ∧ ur U (ρ.set m (.deep (.ll a as (dss.set j (insAt k d2 ds)))))
theorem reps_ins {B : Hp} : ∀ {vs : List V} {ds : List D} (k : Nat) {v : V} {d : D}, Reps K B vs ds → Rep K B v d → Reps K B (insAt k v vs) (insAt k d ds)
  | _, _, 0, _, _, h, r => .cons r h
  | _, _, k + 1, _, _, .nil, r => .cons r .nil
  | _, _, k + 1, _, _, .cons a h, r => .cons a (reps_ins k h r)
theorem bk_ins {ur : US} {e2 : Expr} {y : Str} {py apos cpos : Pos} (hr' : X.N[r]? = some y) (hy : Vis X.env.scope y) (he : PE3 X e u) (he2 : PE3 X e2 u2) (hr : PSs3 X rest ur)
    (hd : (y == ("__debug__" : Str)) = false := by decide) (hcd : (y == ("__classdict__" : Str)) = false := by decide) (hbase : attributeBase (.Name y py) "insert" X.env (eval (.Name y py) X.env) = eval (.Name y py) X.env := by rfl)
    (hfew : ((backTo cpos (starEach [e, e2] X.env)).all (fun x => !x.1) && (backToKw cpos (keywordEach [] X.env)).all (fun x => x.1.isSome)
      && decide ([e, e2].length + ([] : List Keyword).length + (if ([] : List Keyword).isEmpty then 0 else 1) < 30)) = true := by rfl)
    (hline : (apos.endLine == cpos.line) = true := by rfl) (hs : starEach [e, e2] X.env = (false, eval e X.env) :: starEach [e2] X.env := by rfl) (hs2 : starEach [e2] X.env = (false, eval e2 X.env) :: starEach [] X.env := by rfl) (hplain : (backTo cpos (starEach [e2] X.env)).any (·.1) = false := by rfl)
    (hsw : swapsWith (.Call (.Attribute (.Name y py) "insert" apos) [e, e2] [] cpos) none pos.line X.env = pure false := by rfl) :
    PBk X m r (.Expr (.Call (.Attribute (.Name y py) "insert" apos) [e, e2] [] cpos) pos :: rest) (uBkI m r u u2 ur) := by
  obtain ⟨_, h1, r1⟩ := he; obtain ⟨_, h2, r2⟩ := he2; obtain ⟨_, h3, r3⟩ := hr
  refine ⟨_, pss_cons (ps_expr (pe_bm PySem.F.plainAttrs_list PySem.F.slot_list_insert PySem.F.type_list_insert mt_insert (pe_var hr' hy hd hcd) (pa_cons h1 (pa_cons h2 pa_nil hs2) hs) hbase hfew hline hs hplain) hsw) h3, fun U ρ dss j h a as aj ho hj hr R W B H σ E e sm hσ => ?_⟩
  have cur : ∀ {B1 H1 : Hp}, Ev X.K R W B1 H1 σ ρ → ∀ {ds : List D}, dss[j]? = some ds → ∃ vs, H1 aj = some (.lst vs) ∧ Reps X.K B1 vs ds := fun {B1 H1} e1 {ds} hd => (e1.deepAt ho).2.ok.2.at_ j aj ds hj hd
  have lt : j < dss.length := by
    rw [← (e.deepAt ho).2.ok.2.len]
    exact (List.getElem?_eq_some_iff.mp hj).1
  obtain ⟨vs0, q0, _⟩ := cur e (List.getElem?_eq_getElem lt)
  refine ⟨_, hσ, .inl ⟨rfl, vs0, SqL.of q0⟩, ?_⟩
  refine r1 ρ _ h R W B H σ _ e fun d1 v1 B1 H1 z1 e1 g1 s1 => ?_
  refine r2 ρ _ z1 R W B1 H1 σ _ e1 fun d2 v2 B2 H2 z2 e2 g2 s2 => ?_
  obtain ⟨k, ds, a', as', rfl, hd, hk, hz, ho', z⟩ := z2
  rw [ho] at ho'
  cases ho'
  obtain ⟨vs, hv, rv⟩ := cur e2 hd
  have l1 := rv.length
  refine ⟨aj, vs, k, k, v2, rfl, by rw [s1.intV], hv, rfl, by omega, by omega, ?_⟩
  obtain ⟨_, d4⟩ := e2.deepAt ho
  have inx : aj ∈ as := List.mem_of_getElem? hj
  have nd := d4.nd
  refine r3 U _ z R W B2 _ σ E (e2.deepW (c' := .ll a as (dss.set j (insAt k d2 ds))) ho (List.mem_cons_of_mem _ inx) rfl (fun y hy => hy) nd ⟨?_, ?_⟩) (sm.grow (g1.trans g2))
  · rw [upd_ne (by rintro rfl; exact (List.nodup_cons.mp nd).1 inx)]; exact d4.ok.1
  · refine ⟨by rw [List.length_set]; exact d4.ok.2.len, fun i x es hx he => ?_⟩
    by_cases ij : i = j
    · subst ij
      rw [hj] at hx; cases hx
      rw [List.getElem?_set_self lt] at he
      cases he
      exact ⟨_, upd_same, reps_ins k rv s2⟩
    · rw [List.getElem?_set_ne (fun z => ij z.symm)] at he
      have ne : x ≠ aj := by
        rintro rfl
        have li := (List.getElem?_eq_some_iff.mp hx).1
        exact ij ((List.getElem?_inj li (List.nodup_cons.mp nd).2).mp (hx.trans hj.symm))
      obtain ⟨us, u1, u2⟩ := d4.ok.2.at_ i x es hx he
      exact ⟨us, by rw [upd_ne ne]; exact u1, u2⟩
end
end L3

/-! Marks of what is slid, turned, tilted; marks times directions come to nothing. -/
namespace Cut
open PySem L2 L3
open PySem.Builtin.Int (intBits)
def DrOk (d : F2) : Prop := Int.gcd d.1 d.2 = 1 ∧ (0 < d.2 ∨ d.2 = 0 ∧ d.1 = 1)
theorem dr_of {a b : Int} (h : a ≠ 0 ∨ b ≠ 0) : DrOk (wdir a b) := ⟨(wdir_spec h).2.2.1, (wdir_spec h).2.2.2⟩
theorem DrOk.nz {d : F2} (h : DrOk d) : d.1 ≠ 0 ∨ d.2 ≠ 0 := by
  rcases h.2 with z | ⟨_, z⟩
  · exact .inr (by omega)
  · exact .inl (by omega)
theorem wd_of {a b p : Int} {d : F2} (hd : DrOk d) (p0 : p ≠ 0) (h1 : a = p * d.1) (h2 : b = p * d.2) : wdir a b = d ∧ wpar a b = p := by
  have nz : a ≠ 0 ∨ b ≠ 0 := by
    rcases hd.nz with z | z
    · exact .inl (by rw [h1]; exact Int.mul_ne_zero p0 z)
    · exact .inr (by rw [h2]; exact Int.mul_ne_zero p0 z)
  obtain ⟨s1, s2, s3, s4⟩ := wdir_spec nz
  have q0 := wpar_ne nz
  have g1 : Int.gcd a b = p.natAbs := by rw [gcd_fac h1 h2, hd.1, Nat.mul_one]
  have g2 : Int.gcd a b = (wpar a b).natAbs := by rw [gcd_fac (s := wpar a b) (x := (wdir a b).1) (y := (wdir a b).2) (by rw [Int.mul_comm]; exact s1.symm) (by rw [Int.mul_comm]; exact s2.symm), s3, Nat.mul_one]
  generalize wdir a b = w at s1 s2 s3 s4
  generalize wpar a b = q at s1 s2 q0 g2
  have pq : q = p ∨ q = -p := by omega
  have d4 := hd.2
  rcases pq with rfl | rfl
  · refine ⟨Prod.ext ?_ ?_, rfl⟩
    · exact Int.eq_of_mul_eq_mul_right p0 (by rw [s1, h1, Int.mul_comm])
    · exact Int.eq_of_mul_eq_mul_right p0 (by rw [s2, h2, Int.mul_comm])
  · have e1 : w.1 = -d.1 := Int.eq_of_mul_eq_mul_right q0 (by rw [s1, h1]; grind)
    have e2 : w.2 = -d.2 := Int.eq_of_mul_eq_mul_right q0 (by rw [s2, h2]; grind)
    omega
theorem wd_hom {x y p : Int} (h : x ≠ 0 ∨ y ≠ 0) (p0 : p ≠ 0) : wdir (p * x) (p * y) = wdir x y ∧ wpar (p * x) (p * y) = p * wpar x y := by
  obtain ⟨s1, s2, _, _⟩ := wdir_spec h
  refine wd_of (dr_of h) (Int.mul_ne_zero p0 (wpar_ne h)) ?_ ?_
  · rw [Int.mul_assoc, Int.mul_comm (wpar x y), s1]
  · rw [Int.mul_assoc, Int.mul_comm (wpar x y), s2]
structure LnOk (L : F2 → F2) : Prop where
  hom : ∀ (p : Int) (d : F2), L (p * d.1, p * d.2) = (p * (L d).1, p * (L d).2)
  nz : ∀ d : F2, (d.1 ≠ 0 ∨ d.2 ≠ 0) → (L d).1 ≠ 0 ∨ (L d).2 ≠ 0
  inj : ∀ (p q : Int) (d e : F2), p * (L d).1 = q * (L e).1 → p * (L d).2 = q * (L e).2 → p * d.1 = q * e.1 ∧ p * d.2 = q * e.2
def trD (L : F2 → F2) (d : F2) : F2 := wdir (L d).1 (L d).2
def trC (L : F2 → F2) (d : F2) : Int := wpar (L d).1 (L d).2
theorem ln_inj {L : F2 → F2} (hl : LnOk L) {d e : F2} (hd : DrOk d) (he : DrOk e) (h : trD L d = trD L e) : d = e := by
  have n1 := hl.nz d hd.nz
  have n2 := hl.nz e he.nz
  obtain ⟨a1, a2, _, _⟩ := wdir_spec n1
  obtain ⟨b1, b2, _, _⟩ := wdir_spec n2
  have p0 := wpar_ne n1
  have q0 := wpar_ne n2
  unfold trD at h
  rw [h] at a1 a2
  generalize wdir (L e).1 (L e).2 = w at a1 a2 b1 b2
  generalize hp : wpar (L d).1 (L d).2 = p at a1 a2 p0
  generalize hq : wpar (L e).1 (L e).2 = q at b1 b2 q0
  obtain ⟨c1, c2⟩ := hl.inj q p d e (by rw [← a1, ← b1]; grind) (by rw [← a2, ← b2]; grind)
  have x1 := (wd_of (a := q * d.1) (b := q * d.2) hd q0 rfl rfl).1
  have x2 := (wd_of (a := q * d.1) (b := q * d.2) he p0 c1 c2).1
  rw [← x1, x2]
theorem side_tr {L f : F2 → F2} (hl : LnOk L) (hf : ∀ a b : F2, stE (f a, f b) = L (stE (a, b))) {e : F2 × F2} (ns : NoSpot e) : dirE (f e.1, f e.2) = trD L (dirE e) ∧ parE (f e.1, f e.2) = parE e * trC L (dirE e) := by
  obtain ⟨s1, s2, _, _⟩ := wdir_spec ns
  have p0 := wpar_ne ns
  have dk : DrOk (dirE e) := dr_of ns
  have st : stE e = (parE e * (dirE e).1, parE e * (dirE e).2) := Prod.ext (by show _ = parE e * (dirE e).1; rw [Int.mul_comm]; exact s1.symm) (by show _ = parE e * (dirE e).2; rw [Int.mul_comm]; exact s2.symm)
  have e1 : stE (f e.1, f e.2) = (parE e * (L (dirE e)).1, parE e * (L (dirE e)).2) := by rw [hf, show ((e.1, e.2) : F2 × F2) = e from rfl, st, hl.hom]
  have h := wd_hom (p := parE e) (hl.nz _ dk.nz) p0
  constructor
  · show wdir (stE (f e.1, f e.2)).1 (stE (f e.1, f e.2)).2 = _
    rw [e1]; exact h.1
  · show wpar (stE (f e.1, f e.2)).1 (stE (f e.1, f e.2)).2 = _
    rw [e1]; exact h.2
theorem sds_mapF (f : F2 → F2) (ps : List F2) : sds (ps.map f) = (sds ps).map fun e => (f e.1, f e.2) := by
  unfold sds
  rw [← List.map_drop, ← List.map_take, ← List.map_append, List.zip_map]
  rfl
theorem smD_tr {L f : F2 → F2} (hl : LnOk L) (hf : ∀ a b : F2, stE (f a, f b) = L (stE (a, b))) {d : F2} (hd : DrOk d) : ∀ {es : List (F2 × F2)}, (∀ e ∈ es, NoSpot e) → smD (trD L d) (es.map fun e => (f e.1, f e.2)) = smD d es * trC L d
  | [], _ => by simp [smD]
  | e :: es, h => by
    rw [List.map_cons, smD, smD, smD_tr hl hf hd fun x hx => h x (List.mem_cons_of_mem _ hx)]
    have ns := h e List.mem_cons_self
    obtain ⟨a, b⟩ := side_tr hl hf ns
    rw [a, b]
    by_cases z : dirE e = d
    · rw [if_pos (by rw [z]), if_pos z, z]; grind
    · rw [if_neg fun q => z (ln_inj hl (dr_of ns) hd q), if_neg z]; grind
theorem smD_off {L f : F2 → F2} (hl : LnOk L) (hf : ∀ a b : F2, stE (f a, f b) = L (stE (a, b))) {d' : F2} (hd : ∀ d, DrOk d → trD L d ≠ d') : ∀ {es : List (F2 × F2)}, (∀ e ∈ es, NoSpot e) → smD d' (es.map fun e => (f e.1, f e.2)) = 0
  | [], _ => by simp [smD]
  | e :: es, h => by
    rw [List.map_cons, smD, smD_off hl hf hd fun x hx => h x (List.mem_cons_of_mem _ hx)]
    have ns := h e List.mem_cons_self
    rw [(side_tr hl hf ns).1, if_neg (hd (dirE e) (dr_of ns))]
    rfl
theorem smD_bad {d : F2} (hd : ¬ DrOk d) : ∀ {es : List (F2 × F2)}, (∀ e ∈ es, NoSpot e) → smD d es = 0
  | [], _ => rfl
  | e :: es, h => by
    rw [smD, smD_bad hd fun x hx => h x (List.mem_cons_of_mem _ hx), if_neg fun q => hd (by rw [← q]; exact dr_of (h e List.mem_cons_self))]
    rfl
theorem smR_tr {L f : F2 → F2} (hl : LnOk L) (hf : ∀ a b : F2, stE (f a, f b) = L (stE (a, b))) {d : F2} (hd : DrOk d) : ∀ {rs : RR}, (∀ r ∈ rs, ∀ e ∈ sds r, NoSpot e) → smR (rs.map fun r => r.map f) (trD L d) = smR rs d * trC L d
  | [], _ => by simp [smR]
  | r :: rs, h => by
    have ih := smR_tr hl hf hd (rs := rs) fun x hx => h x (List.mem_cons_of_mem _ hx)
    unfold smR at ih ⊢
    simp only [List.map_cons, List.sum_cons]
    rw [ih, sds_mapF, smD_tr hl hf hd (h r List.mem_cons_self)]
    grind
theorem smR_off {L f : F2 → F2} (hl : LnOk L) (hf : ∀ a b : F2, stE (f a, f b) = L (stE (a, b))) {d' : F2} (hd : ∀ d, DrOk d → trD L d ≠ d') : ∀ {rs : RR}, (∀ r ∈ rs, ∀ e ∈ sds r, NoSpot e) → smR (rs.map fun r => r.map f) d' = 0
  | [], _ => by simp [smR]
  | r :: rs, h => by
    have ih := smR_off hl hf hd (rs := rs) fun x hx => h x (List.mem_cons_of_mem _ hx)
    unfold smR at ih ⊢
    simp only [List.map_cons, List.sum_cons]
    rw [ih, sds_mapF, smD_off hl hf hd (h r List.mem_cons_self)]
    rfl
theorem smR_bad {d : F2} (hd : ¬ DrOk d) : ∀ {rs : RR}, (∀ r ∈ rs, ∀ e ∈ sds r, NoSpot e) → smR rs d = 0
  | [], _ => rfl
  | r :: rs, h => by
    have ih := smR_bad hd (rs := rs) fun x hx => h x (List.mem_cons_of_mem _ hx)
    unfold smR at ih ⊢
    simp only [List.map_cons, List.sum_cons]
    rw [ih, smD_bad hd (h r List.mem_cons_self)]
    rfl
/-- so many times -/
def sclL (s : Int) (d : F2) : F2 := (s * d.1, s * d.2)
theorem scl_ok {s : Int} (s0 : s ≠ 0) : LnOk (sclL s) where
  hom := fun p d => by unfold sclL; dsimp only; exact Prod.ext (by grind) (by grind)
  nz := fun d h => h.imp (fun z => Int.mul_ne_zero s0 z) fun z => Int.mul_ne_zero s0 z
  inj := fun p q d e h1 h2 => by
    unfold sclL at h1 h2
    dsimp only at h1 h2
    exact ⟨Int.eq_of_mul_eq_mul_right s0 (by grind), Int.eq_of_mul_eq_mul_right s0 (by grind)⟩
theorem scl_tr {s : Int} (s0 : s ≠ 0) {d : F2} (h : DrOk d) : trD (sclL s) d = d ∧ trC (sclL s) d = s := by
  have := wd_of (a := s * d.1) (b := s * d.2) h s0 rfl rfl
  exact this
theorem smR_scl {s : Int} (s0 : s ≠ 0) {f : F2 → F2} (hf : ∀ a b : F2, stE (f a, f b) = sclL s (stE (a, b))) {rs : RR} (h : ∀ r ∈ rs, ∀ e ∈ sds r, NoSpot e) (d : F2) : smR (rs.map fun r => r.map f) d = s * smR rs d := by
  by_cases hd : DrOk d
  · have := smR_tr (scl_ok s0) hf hd h
    rw [(scl_tr s0 hd).1, (scl_tr s0 hd).2] at this
    rw [this, Int.mul_comm]
  · rw [smR_bad hd h, Int.mul_zero]
    refine smR_off (scl_ok s0) hf (fun e he q => hd ?_) h
    rw [← q, (scl_tr s0 he).1]; exact he
/-- tilted -/
def tltL (t u : Int) (d : F2) : F2 := (d.1 * u, d.2 * u + d.1 * t)
theorem tlt_ok {t u : Int} (u0 : u ≠ 0) : LnOk (tltL t u) where
  hom := fun p d => by unfold tltL; dsimp only; exact Prod.ext (by grind) (by grind)
  nz := fun d h => by
    unfold tltL
    dsimp only
    by_cases z : d.1 = 0
    · rcases h with h | h
      · exact absurd z h
      · right; rw [z, Int.zero_mul, Int.add_zero]; exact Int.mul_ne_zero h u0
    · exact .inl (Int.mul_ne_zero z u0)
  inj := fun p q d e h1 h2 => by
    unfold tltL at h1 h2
    dsimp only at h1 h2
    have a : p * d.1 = q * e.1 := Int.eq_of_mul_eq_mul_right u0 (by grind)
    exact ⟨a, Int.eq_of_mul_eq_mul_right u0 (by grind)⟩
theorem MkOk.neg {S : F2 → Int} {n : Int} {L : List (F2 × F2)} (hn : 0 < n) (h : MkOk S n L) : MkOk (fun d => -S d) n (L.map fun x => (x.1, (-x.2.1, x.2.2))) := by
  refine ⟨List.pairwise_map.mpr h.pw, fun d r => ?_⟩
  rw [List.mem_map]
  constructor
  · rintro ⟨⟨d', r'⟩, hx, e⟩
    obtain ⟨h1, h2⟩ := (h.mem d' r').mp hx
    have e1 : d' = d := congrArg (·.1) e
    have e2 : (-r'.1, r'.2) = r := congrArg (·.2) e
    subst e1
    refine ⟨by show -S d' ≠ 0; omega, ?_⟩
    rw [nrat_negTop hn, ← h2]; exact e2.symm
  · rintro ⟨h1, h2⟩
    refine ⟨(d, nrat (S d) n), (h.mem _ _).mpr ⟨by have : -S d ≠ 0 := h1; omega, rfl⟩, ?_⟩
    rw [h2, nrat_negTop hn]
    rfl
theorem MkOk.same {S S' : F2 → Int} {n : Int} {L : List (F2 × F2)} (h : MkOk S n L) (e : ∀ d, S' d = S d) : MkOk S' n L := by
  have : S' = S := funext e
  rw [this]; exact h
theorem MkOk.times {S S' : F2 → Int} {n s : Int} {L : List (F2 × F2)} (hn : 0 < n) (s0 : 0 < s) (h : MkOk S n L) (e : ∀ d, S' d = s * S d) : MkOk S' (s * n) L := by
  refine ⟨h.pw, fun d r => ?_⟩
  rw [h.mem, e d]
  have q : nrat (s * S d) (s * n) = nrat (S d) n := nrat_cross (Int.ne_of_gt (Int.mul_pos s0 hn)) (Int.ne_of_gt hn) (by grind)
  rw [q]
  constructor
  · exact fun ⟨a, b⟩ => ⟨Int.mul_ne_zero (by omega) a, b⟩
  · exact fun ⟨a, b⟩ => ⟨fun z => a (by rw [z, Int.mul_zero]), b⟩
end Cut

/-! A corner more amid a side; marks times directions come to nothing. -/
namespace Cut
open PySem L2 L3
open PySem.Builtin.Int (intBits)
/-- so often goes a direction along a row of places -/
def chn2 (d : F2) : List F2 → Int
  | a :: b :: r => (if dirE (a, b) = d then parE (a, b) else 0) + chn2 d (b :: r)
  | _ => 0
theorem zip_chn (d : F2) (z : F2) : ∀ (x : F2) (l : List F2), smD d ((x :: l).zip (l ++ [z])) = chn2 d (x :: l ++ [z])
  | x, [] => by simp [smD, chn2]
  | x, y :: l => by
    have ih := zip_chn d z y l
    show smD d ((x, y) :: (y :: l).zip (l ++ [z])) = chn2 d (x :: y :: (l ++ [z]))
    rw [smD, chn2, ih]; rfl
theorem sds_chn (d : F2) (x : F2) (l : List F2) : smD d (sds (x :: l)) = chn2 d (x :: l ++ [x]) := by
  have : sds (x :: l) = (x :: l).zip (l ++ [x]) := by unfold sds; rfl
  rw [this, zip_chn]
theorem chn2_mid (d : F2) (b : F2) (C : List F2) : ∀ A : List F2, chn2 d (A ++ b :: C) = chn2 d (A ++ [b]) + chn2 d (b :: C)
  | [] => by simp [chn2]
  | [x] => by
    show chn2 d (x :: b :: C) = chn2 d [x, b] + _
    rw [chn2, chn2]; simp [chn2]
  | x :: y :: A => by
    have ih := chn2_mid d b C (y :: A)
    show chn2 d (x :: y :: (A ++ b :: C)) = chn2 d (x :: y :: (A ++ [b])) + _
    rw [chn2, chn2]
    have : chn2 d (y :: (A ++ b :: C)) = chn2 d (y :: (A ++ [b])) + chn2 d (b :: C) := ih
    rw [this]; omega
/-- one step parted in two of the same direction -/
def Parts (a c b : F2) : Prop := ∀ d, (if dirE (a, c) = d then parE (a, c) else 0) + (if dirE (c, b) = d then parE (c, b) else 0) = if dirE (a, b) = d then parE (a, b) else 0
theorem ins_mid {d a c b : F2} (h : Parts a c b) (A C : List F2) : chn2 d (A ++ a :: c :: b :: C) = chn2 d (A ++ a :: b :: C) := by
  rw [chn2_mid, chn2_mid d a (b :: C), chn2, chn2, chn2]
  have := h d
  omega
/-- a corner more, ahead of the place k -/
theorem ins_sum {ps : List F2} {k : Nat} (hk : k < ps.length) (l2 : 2 ≤ ps.length) {c : F2} (h : Parts (ps.getD ((k + ps.length - 1) % ps.length) (0, 0)) c (ps.getD k (0, 0))) (d : F2) : smD d (sds (insAt k c ps)) = smD d (sds ps) := by
  cases k with
  | zero =>
    obtain ⟨x, l, rfl⟩ : ∃ x l, ps = x :: l := by
      cases ps with
      | nil => simp at hk
      | cons x l => exact ⟨x, l, rfl⟩
    have ln : l ≠ [] := by rintro rfl; simp at l2
    obtain ⟨l', z, rfl⟩ : ∃ l' z, l = l' ++ [z] := ⟨l.dropLast, l.getLast ln, (List.dropLast_concat_getLast ln).symm⟩
    have e1 : (0 + (x :: (l' ++ [z])).length - 1) % (x :: (l' ++ [z])).length = l'.length + 1 := by
      simp
    rw [e1] at h
    have e2 : (x :: (l' ++ [z])).getD (l'.length + 1) (0, 0) = z := by simp
    rw [e2] at h
    have e3 : (x :: (l' ++ [z])).getD 0 (0, 0) = x := rfl
    rw [e3] at h
    show smD d (sds (c :: x :: (l' ++ [z]))) = _
    rw [sds_chn, sds_chn]
    have a1 : c :: x :: (l' ++ [z]) ++ [c] = c :: (x :: l' ++ z :: [c]) := by simp
    have a2 : x :: (l' ++ [z]) ++ [x] = x :: l' ++ z :: [x] := by simp
    rw [a1, a2]
    show chn2 d (c :: x :: (l' ++ z :: [c])) = _
    rw [chn2]
    have b1 := chn2_mid d z [c] (x :: l')
    have b2 := chn2_mid d z [x] (x :: l')
    have b1 : chn2 d (x :: (l' ++ z :: [c])) = chn2 d (x :: l' ++ [z]) + chn2 d [z, c] := b1
    rw [b1, b2]
    have c1 : chn2 d [z, c] = if dirE (z, c) = d then parE (z, c) else 0 := by simp [chn2]
    have c2 : chn2 d [z, x] = if dirE (z, x) = d then parE (z, x) else 0 := by simp [chn2]
    rw [c1, c2]
    have := h d
    omega
  | succ k =>
    have m1 : (k + 1 + ps.length - 1) % ps.length = k := by
      rw [show k + 1 + ps.length - 1 = k + ps.length by omega, Nat.add_mod_right]
      exact Nat.mod_eq_of_lt (by omega)
    rw [m1] at h
    have kl : k < ps.length := by omega
    have g1 : ps.getD k (0, 0) = ps[k] := by simp [kl]
    have g2 : ps.getD (k + 1) (0, 0) = ps[k + 1] := by simp [hk]
    rw [g1, g2] at h
    have s1 : ps = ps.take k ++ ps[k] :: ps[k + 1] :: ps.drop (k + 2) := by
      rw [← List.drop_eq_getElem_cons hk, ← List.drop_eq_getElem_cons kl, List.take_append_drop]
    have s2 : insAt (k + 1) c ps = ps.take k ++ ps[k] :: c :: ps[k + 1] :: ps.drop (k + 2) := by
      unfold insAt
      rw [← List.drop_eq_getElem_cons hk, List.take_succ_eq_append_getElem kl, List.append_assoc]
      rfl
    generalize ps[k] = a at h s1 s2
    generalize ps[k + 1] = b at h s1 s2
    rw [s2]
    conv => rhs; rw [s1]
    generalize ps.take k = A
    generalize ps.drop (k + 2) = C
    cases A with
    | nil =>
      show smD d (sds (a :: (c :: b :: C))) = smD d (sds (a :: (b :: C)))
      rw [sds_chn, sds_chn]
      have := ins_mid (d := d) h [] (C ++ [a])
      exact this
    | cons x A =>
      show smD d (sds (x :: (A ++ a :: c :: b :: C))) = smD d (sds (x :: (A ++ a :: b :: C)))
      rw [sds_chn, sds_chn]
      have := ins_mid (d := d) h (x :: A) (C ++ [x])
      simpa using this
/-- two thirds and a third -/
theorem part3 {a b : F2} (ne : a ≠ b) : Parts (3 * a.1, 3 * a.2) (2 * b.1 + a.1, 2 * b.2 + a.2) (3 * b.1, 3 * b.2) := fun d => by
  have ns : b.1 - a.1 ≠ 0 ∨ b.2 - a.2 ≠ 0 := by
    by_cases z : b.1 - a.1 = 0
    · right; intro y; exact ne (Prod.ext (by omega) (by omega))
    · exact .inl z
  have h2 := wd_hom (p := 2) ns (by decide)
  have h1 := wd_hom (p := 1) ns (by decide)
  have h3 := wd_hom (p := 3) ns (by decide)
  have e1 : stE ((3 * a.1, 3 * a.2), (2 * b.1 + a.1, 2 * b.2 + a.2)) = (2 * (b.1 - a.1), 2 * (b.2 - a.2)) := Prod.ext (by show 2 * b.1 + a.1 - 3 * a.1 = _; omega) (by show 2 * b.2 + a.2 - 3 * a.2 = _; omega)
  have e2 : stE ((2 * b.1 + a.1, 2 * b.2 + a.2), (3 * b.1, 3 * b.2)) = (1 * (b.1 - a.1), 1 * (b.2 - a.2)) := Prod.ext (by show 3 * b.1 - (2 * b.1 + a.1) = _; omega) (by show 3 * b.2 - (2 * b.2 + a.2) = _; omega)
  have e3 : stE ((3 * a.1, 3 * a.2), (3 * b.1, 3 * b.2)) = (3 * (b.1 - a.1), 3 * (b.2 - a.2)) := Prod.ext (by show 3 * b.1 - 3 * a.1 = _; omega) (by show 3 * b.2 - 3 * a.2 = _; omega)
  unfold dirE parE
  rw [e1, e2, e3]
  dsimp only
  rw [h1.1, h1.2, h2.1, h2.2, h3.1, h3.2]
  split <;> omega
/-! ### come to nothing -/
def smI (d : F2) : List (F2 × Int) → Int
  | [] => 0
  | x :: r => (if x.1 = d then x.2 else 0) + smI d r
def totI (g : F2 → Int) : List (F2 × Int) → Int
  | [] => 0
  | x :: r => g x.1 * x.2 + totI g r
theorem smI_app (d : F2) : ∀ a b, smI d (a ++ b) = smI d a + smI d b
  | [], b => by simp [smI]
  | x :: a, b => by rw [List.cons_append, smI, smI, smI_app d a b]; omega
theorem totI_app (g : F2 → Int) : ∀ a b, totI g (a ++ b) = totI g a + totI g b
  | [], b => by simp [totI]
  | x :: a, b => by rw [List.cons_append, totI, totI, totI_app g a b]; omega
theorem smI_flt (d0 d : F2) : ∀ X : List (F2 × Int), smI d (X.filter fun x => decide (x.1 ≠ d0)) = if d = d0 then 0 else smI d X
  | [] => by simp [smI]
  | x :: r => by
    have ih := smI_flt d0 d r
    by_cases z : x.1 = d0
    · rw [List.filter_cons_of_neg (by simp [z]), ih, smI]
      by_cases q : d = d0
      · rw [if_pos q, if_pos q]
      · rw [if_neg q, if_neg q, if_neg (by rw [z]; exact fun y => q y.symm)]; omega
    · rw [List.filter_cons_of_pos (by simp [z]), smI, ih, smI]
      by_cases q : d = d0
      · rw [if_pos q, if_pos q, if_neg (by rw [q]; exact z)]; rfl
      · rw [if_neg q, if_neg q]
theorem totI_flt (g : F2 → Int) (d0 : F2) : ∀ X : List (F2 × Int), totI g X = totI g (X.filter fun x => decide (x.1 ≠ d0)) + g d0 * smI d0 X
  | [] => by simp [totI, smI]
  | x :: r => by
    have ih := totI_flt g d0 r
    by_cases z : x.1 = d0
    · rw [List.filter_cons_of_neg (by simp [z]), totI, smI, if_pos z, ih, z]; grind
    · rw [List.filter_cons_of_pos (by simp [z]), totI, totI, smI, if_neg z, ih]; grind
theorem tot_zero (g : F2 → Int) : ∀ (n : Nat) (X : List (F2 × Int)), X.length ≤ n → (∀ d, smI d X = 0) → totI g X = 0
  | _, [], _, _ => rfl
  | 0, x :: r, h, _ => by simp at h
  | n + 1, x :: r, h, hs => by
    rw [totI_flt g x.1, hs, Int.mul_zero, Int.add_zero]
    refine tot_zero g n _ ?_ fun d => ?_
    · rw [List.filter_cons_of_neg (by simp)]
      exact Nat.le_trans (List.length_filter_le _ _) (by simpa using h)
    · rw [smI_flt, hs]; simp
theorem smD_I (d : F2) : ∀ es : List (F2 × F2), smD d es = smI d (es.map fun e => (dirE e, parE e))
  | [] => rfl
  | e :: es => by rw [List.map_cons, smD, smI, smD_I d es]
def allI (rs : RR) : List (F2 × Int) := rs.flatMap fun r => (sds r).map fun e => (dirE e, parE e)
theorem smR_I (d : F2) : ∀ rs : RR, smR rs d = smI d (allI rs)
  | [] => rfl
  | r :: rs => by
    have ih := smR_I d rs
    unfold smR allI at ih ⊢
    rw [List.map_cons, List.sum_cons, List.flatMap_cons, smI_app, ← ih, smD_I]
theorem smI_marks {S : F2 → Int} : ∀ {L : List (F2 × F2)}, L.Pairwise (fun a b => lexI [a.1.1, a.1.2] [b.1.1, b.1.2] = true) → ∀ d, smI d (L.map fun x => (x.1, -S x.1)) = if d ∈ L.map (·.1) then -S d else 0
  | [], _, d => by simp [smI]
  | x :: L, h, d => by
    obtain ⟨h1, h2⟩ := List.pairwise_cons.mp h
    rw [List.map_cons, smI, smI_marks h2 d]
    by_cases z : x.1 = d
    · have no : d ∉ L.map (·.1) := fun hm => by
        obtain ⟨y, hy, e⟩ := List.mem_map.mp hm
        have := h1 _ hy
        rw [e, z] at this
        rw [lex_irrefl] at this
        cases this
      rw [if_pos z, if_neg no, if_pos (by rw [List.map_cons, z]; exact List.mem_cons_self), z]; omega
    · rw [if_neg z]
      by_cases q : d ∈ L.map (·.1)
      · rw [if_pos q, if_pos (by rw [List.map_cons]; exact List.mem_cons_of_mem _ q)]; omega
      · rw [if_neg q, if_neg]
        · rfl
        · rw [List.map_cons]
          intro hm
          rcases List.mem_cons.mp hm with y | y
          · exact z y.symm
          · exact q y
theorem zip_sum (f : F2 → Int) : ∀ (a b : List F2), a.length = b.length → ((a.zip b).map fun e => f e.2 - f e.1).sum = (b.map f).sum - (a.map f).sum
  | [], [], _ => rfl
  | [], _ :: _, h => by simp at h
  | _ :: _, [], h => by simp at h
  | x :: a, y :: b, h => by
    have ih := zip_sum f a b (by simpa using h)
    simp only [List.zip_cons_cons, List.map_cons, List.sum_cons]
    rw [ih]; omega
theorem ring_zero (f : F2 → Int) (ps : List F2) : ((sds ps).map fun e => f e.2 - f e.1).sum = 0 := by
  unfold sds
  rw [zip_sum f ps (ps.drop 1 ++ ps.take 1) (by rw [List.length_append, List.length_drop, List.length_take]; omega)]
  have : (ps.map f).sum = ((ps.drop 1 ++ ps.take 1).map f).sum := by
    rw [List.map_append, List.sum_append, Int.add_comm, ← List.sum_append, ← List.map_append, List.take_append_drop]
  rw [this]; omega
theorem tot_ring {g : F2 → Int} {f : F2 → Int} (hg : ∀ e : F2 × F2, NoSpot e → g (dirE e) * parE e = f e.2 - f e.1) : ∀ {es : List (F2 × F2)}, (∀ e ∈ es, NoSpot e) → totI g (es.map fun e => (dirE e, parE e)) = (es.map fun e => f e.2 - f e.1).sum
  | [], _ => rfl
  | e :: es, h => by
    rw [List.map_cons, totI, tot_ring hg fun x hx => h x (List.mem_cons_of_mem _ hx), List.map_cons, List.sum_cons, hg e (h e List.mem_cons_self)]
theorem tot_all {g : F2 → Int} {f : F2 → Int} (hg : ∀ e : F2 × F2, NoSpot e → g (dirE e) * parE e = f e.2 - f e.1) : ∀ {rs : RR}, (∀ r ∈ rs, ∀ e ∈ sds r, NoSpot e) → totI g (allI rs) = 0
  | [], _ => rfl
  | r :: rs, h => by
    have ih := tot_all hg (rs := rs) fun x hx => h x (List.mem_cons_of_mem _ hx)
    unfold allI at ih ⊢
    rw [List.flatMap_cons, totI_app, ih, tot_ring hg (h r List.mem_cons_self), ring_zero]; rfl
theorem marks_zero {rs : RR} {n : Int} {L : List (F2 × F2)} (h : ∀ r ∈ rs, ∀ e ∈ sds r, NoSpot e) (mk : MkOk (smR rs) n L) : (L.map fun x => x.1.1 * smR rs x.1).sum = 0 ∧ (L.map fun x => x.1.2 * smR rs x.1).sum = 0 := by
  have key : ∀ (g f : F2 → Int), (∀ e : F2 × F2, NoSpot e → g (dirE e) * parE e = f e.2 - f e.1) → (L.map fun x => g x.1 * smR rs x.1).sum = 0 := fun g f hg => by
    have z := tot_zero g _ (allI rs ++ L.map fun x => (x.1, -smR rs x.1)) (Nat.le_refl _) fun d => by
      rw [smI_app, ← smR_I, smI_marks mk.pw]
      by_cases q : d ∈ L.map (·.1)
      · rw [if_pos q]; omega
      · rw [if_neg q]
        by_cases y : smR rs d = 0
        · omega
        · exact absurd (List.mem_map.mpr ⟨_, (mk.mem d _).mpr ⟨y, rfl⟩, rfl⟩) q
    rw [totI_app, tot_all hg h] at z
    have e : ∀ M : List (F2 × F2), totI g (M.map fun x => (x.1, -smR rs x.1)) = -(M.map fun x => g x.1 * smR rs x.1).sum := fun M => by
      induction M with
      | nil => rfl
      | cons x M ih => rw [List.map_cons, totI, ih, List.map_cons, List.sum_cons]; grind
    rw [e] at z
    omega
  refine ⟨key (·.1) (·.1) fun e ns => ?_, key (·.2) (·.2) fun e ns => ?_⟩
  · exact (wdir_spec ns).1
  · exact (wdir_spec ns).2.1
end Cut

/-! Cloths slid, turned, tilted, with a corner more: rings still, marks as due. -/
namespace Cut
open PySem L2 L3
open PySem.Builtin.Int (intBits)
structure Rg3 (m : Int) (ps : List F2) : Prop where
  ns : ∀ e ∈ sds ps, NoSpot e
  l3 : 3 ≤ ps.length
  l24 : ps.length ≤ 24
  le : ∀ p ∈ ps, -m ≤ p.1 ∧ p.1 ≤ m ∧ -m ≤ p.2 ∧ p.2 ≤ m
structure RgsW (m : Int) (rs : RR) : Prop where
  rg : ∀ r ∈ rs, Rg3 m r
  l8 : rs.length ≤ 8
  l24 : (rs.map List.length).sum ≤ 24
theorem RgsOk.ns {m : Int} {rs : RR} (h : RgsOk m rs) : ∀ r ∈ rs, ∀ e ∈ sds r, NoSpot e := fun r hr e he => sd_ne (h.rg r hr).nd (by have := (h.rg r hr).l3; omega) he
theorem RgsOk.w {m m' : Int} {rs : RR} (h : RgsOk m rs) (l : m ≤ m') : RgsW m' rs := ⟨fun r hr => ⟨h.ns r hr, (h.rg r hr).l3, (h.rg r hr).l24, fun p hp => by have := (h.rg r hr).le p hp; omega⟩, h.l8, h.l24⟩
theorem rgs_map {L f : F2 → F2} {m m' : Int} (hl : LnOk L) (hf : ∀ a b : F2, stE (f a, f b) = L (stE (a, b))) {rs : RR} (h : RgsOk m rs) (hb : ∀ p : F2, -m ≤ p.1 ∧ p.1 ≤ m ∧ -m ≤ p.2 ∧ p.2 ≤ m → -m' ≤ (f p).1 ∧ (f p).1 ≤ m' ∧ -m' ≤ (f p).2 ∧ (f p).2 ≤ m') : RgsW m' (rs.map fun r => r.map f) := by
  refine ⟨fun r hr => ?_, by rw [List.length_map]; exact h.l8, ?_⟩
  · obtain ⟨r, hr0, rfl⟩ := List.mem_map.mp hr
    clear hr
    have hr := hr0
    refine ⟨fun e he => ?_, by rw [List.length_map]; exact (h.rg r hr).l3, by rw [List.length_map]; exact (h.rg r hr).l24, fun p hp => ?_⟩
    · rw [sds_mapF] at he
      obtain ⟨e, he1, rfl⟩ := List.mem_map.mp he
      have := hl.nz _ (h.ns r hr e he1)
      show (stE (f e.1, f e.2)).1 ≠ 0 ∨ (stE (f e.1, f e.2)).2 ≠ 0
      rw [hf]; exact this
    · obtain ⟨p, hp1, rfl⟩ := List.mem_map.mp hp
      exact hb p ((h.rg r hr).le p hp1)
  · rw [List.map_map, show (List.length ∘ fun r : List F2 => r.map f) = List.length from funext fun r => List.length_map ..]; exact h.l24
def mv2 (o x y : Int) (p : F2) : F2 := (o * p.1 + x, o * p.2 + y)
theorem mv_st (o x y : Int) (a b : F2) : stE (mv2 o x y a, mv2 o x y b) = sclL o (stE (a, b)) := Prod.ext (by show o * b.1 + x - (o * a.1 + x) = o * (b.1 - a.1); grind) (by show o * b.2 + y - (o * a.2 + y) = o * (b.2 - a.2); grind)
theorem tlt_st (t u : Int) (a b : F2) : stE (tltL t u a, tltL t u b) = tltL t u (stE (a, b)) := Prod.ext (by show b.1 * u - a.1 * u = (b.1 - a.1) * u; grind) (by show b.2 * u + b.1 * t - (a.2 * u + a.1 * t) = (b.2 - a.2) * u + (b.1 - a.1) * t; grind)
def thr (p : F2) : F2 := (3 * p.1, 3 * p.2)
theorem thr_st (a b : F2) : stE (thr a, thr b) = sclL 3 (stE (a, b)) := Prod.ext (by show 3 * b.1 - 3 * a.1 = 3 * (b.1 - a.1); omega) (by show 3 * b.2 - 3 * a.2 = 3 * (b.2 - a.2); omega)
theorem mv_rgs {o x y : Int} {rs : RR} (h : RgsOk 400000000 rs) (ho : o = 1 ∨ o = -1) (hx : -1000000000 ≤ x ∧ x ≤ 1000000000) (hy : -1000000000 ≤ y ∧ y ≤ 1000000000) : RgsW 20000000000 (rs.map fun r => r.map (mv2 o x y)) := by
  refine rgs_map (scl_ok (s := o) (by omega)) (mv_st o x y) h fun p hp => ?_
  unfold mv2
  dsimp only
  rcases ho with rfl | rfl <;> omega
theorem mul_le {a b A B : Int} (h : -A ≤ a ∧ a ≤ A) (g : -B ≤ b ∧ b ≤ B) (A0 : 0 ≤ A) : -(A * B) ≤ a * b ∧ a * b ≤ A * B := by
  have B0 : 0 ≤ B := by omega
  have : (a * b).natAbs ≤ A.natAbs * B.natAbs := by rw [Int.natAbs_mul]; exact Nat.mul_le_mul (by omega) (by omega)
  have e : ((A.natAbs * B.natAbs : Nat) : Int) = A * B := by rw [Int.natCast_mul]; congr 1 <;> omega
  omega
theorem tlt_rgs {t u : Int} {rs : RR} (h : RgsOk 400000000 rs) (ht : -30 ≤ t ∧ t ≤ 30) (hu : 1 ≤ u ∧ u ≤ 12) : RgsW 20000000000 (rs.map fun r => r.map (tltL t u)) := by
  refine rgs_map (tlt_ok (t := t) (u := u) (by omega)) (tlt_st t u) h fun p hp => ?_
  unfold tltL
  dsimp only
  have a := mul_le (a := p.1) (b := u) (A := 400000000) (B := 12) (by omega) (by omega) (by decide)
  have b := mul_le (a := p.2) (b := u) (A := 400000000) (B := 12) (by omega) (by omega) (by decide)
  have c := mul_le (a := p.1) (b := t) (A := 400000000) (B := 30) (by omega) (by omega) (by decide)
  omega
/-! ### a corner more -/
def chP (P : F2 × F2 → Prop) : List F2 → Prop
  | a :: b :: r => P (a, b) ∧ chP P (b :: r)
  | _ => True
theorem zip_chP (P : F2 × F2 → Prop) (z : F2) : ∀ (x : F2) (l : List F2), (∀ e ∈ (x :: l).zip (l ++ [z]), P e) ↔ chP P (x :: l ++ [z])
  | x, [] => by simp [chP]
  | x, y :: l => by
    have ih := zip_chP P z y l
    show (∀ e ∈ (x, y) :: (y :: l).zip (l ++ [z]), P e) ↔ chP P (x :: y :: (l ++ [z]))
    rw [List.forall_mem_cons, chP, ih]; rfl
theorem sds_chP (P : F2 × F2 → Prop) (x : F2) (l : List F2) : (∀ e ∈ sds (x :: l), P e) ↔ chP P (x :: l ++ [x]) := by
  have : sds (x :: l) = (x :: l).zip (l ++ [x]) := by unfold sds; rfl
  rw [this, zip_chP]
theorem chP_mid (P : F2 × F2 → Prop) (b : F2) (C : List F2) : ∀ A : List F2, chP P (A ++ b :: C) ↔ chP P (A ++ [b]) ∧ chP P (b :: C)
  | [] => by simp [chP]
  | [x] => by
    show chP P (x :: b :: C) ↔ chP P [x, b] ∧ _
    simp [chP]
  | x :: y :: A => by
    have ih : chP P (y :: (A ++ b :: C)) ↔ chP P (y :: (A ++ [b])) ∧ chP P (b :: C) := chP_mid P b C (y :: A)
    show chP P (x :: y :: (A ++ b :: C)) ↔ chP P (x :: y :: (A ++ [b])) ∧ _
    rw [chP, chP, ih, and_assoc]
theorem ins_all {P : F2 × F2 → Prop} {ps : List F2} {k : Nat} (hk : k < ps.length) (l2 : 2 ≤ ps.length) {c : F2} (h1 : P (ps.getD ((k + ps.length - 1) % ps.length) (0, 0), c)) (h2 : P (c, ps.getD k (0, 0))) (h : ∀ e ∈ sds ps, P e) : ∀ e ∈ sds (insAt k c ps), P e := by
  cases k with
  | zero =>
    obtain ⟨x, l, rfl⟩ : ∃ x l, ps = x :: l := by
      cases ps with
      | nil => simp at hk
      | cons x l => exact ⟨x, l, rfl⟩
    have ln : l ≠ [] := by rintro rfl; simp at l2
    obtain ⟨l', z, rfl⟩ : ∃ l' z, l = l' ++ [z] := ⟨l.dropLast, l.getLast ln, (List.dropLast_concat_getLast ln).symm⟩
    have e1 : (0 + (x :: (l' ++ [z])).length - 1) % (x :: (l' ++ [z])).length = l'.length + 1 := by
      simp
    rw [e1] at h1
    have e2 : (x :: (l' ++ [z])).getD (l'.length + 1) (0, 0) = z := by simp
    rw [e2] at h1
    have e3 : (x :: (l' ++ [z])).getD 0 (0, 0) = x := rfl
    rw [e3] at h2
    rw [sds_chP] at h
    show ∀ e ∈ sds (c :: x :: (l' ++ [z])), P e
    rw [sds_chP]
    have a1 : c :: x :: (l' ++ [z]) ++ [c] = c :: x :: (l' ++ z :: [c]) := by simp
    have a2 : x :: (l' ++ [z]) ++ [x] = x :: l' ++ z :: [x] := by simp
    rw [a2, chP_mid] at h
    rw [a1, chP]
    refine ⟨h2, ?_⟩
    have := (chP_mid P z [c] (x :: l')).mpr ⟨h.1, by simp [chP]; exact h1⟩
    exact this
  | succ k =>
    have m1 : (k + 1 + ps.length - 1) % ps.length = k := by
      rw [show k + 1 + ps.length - 1 = k + ps.length by omega, Nat.add_mod_right]
      exact Nat.mod_eq_of_lt (by omega)
    rw [m1] at h1
    have kl : k < ps.length := by omega
    have g1 : ps.getD k (0, 0) = ps[k] := by simp [kl]
    have g2 : ps.getD (k + 1) (0, 0) = ps[k + 1] := by simp [hk]
    rw [g1] at h1
    rw [g2] at h2
    have s1 : ps = ps.take k ++ ps[k] :: ps[k + 1] :: ps.drop (k + 2) := by
      rw [← List.drop_eq_getElem_cons hk, ← List.drop_eq_getElem_cons kl, List.take_append_drop]
    have s2 : insAt (k + 1) c ps = ps.take k ++ ps[k] :: c :: ps[k + 1] :: ps.drop (k + 2) := by
      unfold insAt
      rw [← List.drop_eq_getElem_cons hk, List.take_succ_eq_append_getElem kl, List.append_assoc]
      rfl
    generalize ps[k] = a at h1 s1 s2
    generalize ps[k + 1] = b at h2 s1 s2
    rw [s2]
    rw [s1] at h
    generalize ps.take k = A at h
    generalize ps.drop (k + 2) = C at h
    have mid : ∀ A C : List F2, chP P (A ++ a :: b :: C) → chP P (A ++ a :: c :: b :: C) := fun A C q => by
      obtain ⟨q1, q2⟩ := (chP_mid P a (b :: C) A).mp q
      rw [chP] at q2
      refine (chP_mid P a (c :: b :: C) A).mpr ⟨q1, ?_⟩
      rw [chP, chP]
      exact ⟨h1, h2, q2.2⟩
    cases A with
    | nil =>
      have h : ∀ e ∈ sds (a :: (b :: C)), P e := h
      show ∀ e ∈ sds (a :: (c :: b :: C)), P e
      rw [sds_chP] at h ⊢
      exact mid [] (C ++ [a]) h
    | cons x A =>
      have h : ∀ e ∈ sds (x :: (A ++ a :: b :: C)), P e := h
      show ∀ e ∈ sds (x :: (A ++ a :: c :: b :: C)), P e
      rw [sds_chP] at h ⊢
      have := mid (x :: A) (C ++ [x]) (by simpa using h)
      simpa using this
/-- the cloth three times as large, with a corner more amid the side ahead of a corner, its rings the other way round -/
def more3 (rs : RR) (j k : Nat) (c : F2) : RR := ((rs.map fun r => r.map thr).set j (insAt k c ((rs.getD j []).map thr))).reverse
theorem sum_set {α : Type} {f : α → Int} {l : List α} {j : Nat} {y z : α} (h : l[j]? = some z) (e : f y = f z) : ((l.set j y).map f).sum = (l.map f).sum := by
  rw [List.map_set]
  congr 1
  apply List.ext_getElem?
  intro i
  by_cases ij : i = j
  · subst ij
    have lt : i < (l.map f).length := by rw [List.length_map]; exact (List.getElem?_eq_some_iff.mp h).1
    rw [List.getElem?_set_self lt, List.getElem?_map, h, e]; rfl
  · rw [List.getElem?_set_ne (fun q => ij q.symm)]
theorem len_set {α : Type} : ∀ {l : List (List α)} {j : Nat} {y z : List α}, l[j]? = some z → y.length = z.length + 1 → ((l.set j y).map List.length).sum = (l.map List.length).sum + 1
  | [], j, y, z, h, _ => by simp at h
  | x :: l, 0, y, z, h, e => by
    simp at h
    subst h
    simp only [List.set_cons_zero, List.map_cons, List.sum_cons]
    omega
  | x :: l, j + 1, y, z, h, e => by
    have ih := len_set (l := l) (j := j) (y := y) (z := z) (by simpa using h) e
    simp only [List.set_cons_succ, List.map_cons, List.sum_cons]
    omega
theorem List.sum_reverse_nat (l : List Nat) : l.reverse.sum = l.sum := by rw [List.sum_reverse]
theorem List.le_sum_of_mem_nat : ∀ {l : List Nat} {x : Nat}, x ∈ l → x ≤ l.sum
  | y :: l, x, h => by
    rw [List.sum_cons]
    rcases List.mem_cons.mp h with rfl | h
    · omega
    · have := List.le_sum_of_mem_nat h; omega
theorem smR_rev (rs : RR) (d : F2) : smR rs.reverse d = smR rs d := by
  unfold smR
  rw [List.map_reverse, List.sum_reverse]
theorem thr_getD (ps : List F2) (i : Nat) : (ps.map thr).getD i (0, 0) = thr (ps.getD i (0, 0)) := by
  rw [List.getD_eq_getElem?_getD, List.getD_eq_getElem?_getD, List.getElem?_map]
  cases ps[i]? <;> rfl
theorem ins_map {α β : Type} (f : α → β) (k : Nat) (c : α) (l : List α) : (insAt k c l).map f = insAt k (f c) (l.map f) := by
  unfold insAt
  rw [List.map_append, List.map_cons, List.map_take, List.map_drop]
theorem more3_ok {rs : RR} {j k : Nat} (h : RgsOk 400000000 rs) (tot : (rs.map List.length).sum < 24) (hj : j < rs.length) (hk : k < (rs[j]).length) :
    RgsW 20000000000 (more3 rs j k (2 * ((rs[j]).getD k (0, 0)).1 + ((rs[j]).getD ((k + (rs[j]).length - 1) % (rs[j]).length) (0, 0)).1, 2 * ((rs[j]).getD k (0, 0)).2 + ((rs[j]).getD ((k + (rs[j]).length - 1) % (rs[j]).length) (0, 0)).2)) ∧
    ∀ d, smR (more3 rs j k (2 * ((rs[j]).getD k (0, 0)).1 + ((rs[j]).getD ((k + (rs[j]).length - 1) % (rs[j]).length) (0, 0)).1, 2 * ((rs[j]).getD k (0, 0)).2 + ((rs[j]).getD ((k + (rs[j]).length - 1) % (rs[j]).length) (0, 0)).2)) d = 3 * smR rs d := by
  have g : rs.getD j [] = rs[j] := by simp [hj]
  have rg := h.rg _ (List.getElem_mem hj)
  have ns := h.ns _ (List.getElem_mem hj)
  have l3 := rg.l3
  have hget : (rs.map fun r => r.map thr)[j]? = some ((rs[j]).map thr) := by rw [List.getElem?_map, List.getElem?_eq_getElem hj]; rfl
  unfold more3
  rw [g]
  have kl : (k + (rs[j]).length - 1) % (rs[j]).length < (rs[j]).length := Nat.mod_lt _ (by omega)
  have thg : ∀ i, ((rs[j]).map thr).getD i (0, 0) = thr ((rs[j]).getD i (0, 0)) := fun i => by
    rw [List.getD_eq_getElem?_getD, List.getD_eq_getElem?_getD, List.getElem?_map]
    cases (rs[j])[i]? <;> rfl
  have ma := getD_mem kl
  have mb := getD_mem hk
  have ne : (rs[j]).getD ((k + (rs[j]).length - 1) % (rs[j]).length) (0, 0) ≠ (rs[j]).getD k (0, 0) := by
    have e1 : (rs[j]).getD ((k + (rs[j]).length - 1) % (rs[j]).length) (0, 0) = (rs[j])[(k + (rs[j]).length - 1) % (rs[j]).length] := by rw [List.getD_eq_getElem?_getD, List.getElem?_eq_getElem kl]; rfl
    have e2 : (rs[j]).getD k (0, 0) = (rs[j])[k] := by rw [List.getD_eq_getElem?_getD, List.getElem?_eq_getElem hk]; rfl
    rw [e1, e2]
    intro z
    have zz : (rs[j])[(k + (rs[j]).length - 1) % (rs[j]).length]? = (rs[j])[k]? := by rw [List.getElem?_eq_getElem kl, List.getElem?_eq_getElem hk, z]
    have : (k + (rs[j]).length - 1) % (rs[j]).length = k := (List.getElem?_inj kl rg.nd).mp zz
    cases k with
    | zero =>
      rw [Nat.zero_add, Nat.mod_eq_of_lt (by omega)] at this
      omega
    | succ k =>
      rw [show k + 1 + (rs[j]).length - 1 = k + (rs[j]).length by omega, Nat.add_mod_right, Nat.mod_eq_of_lt (by omega)] at this
      omega
  have hk' : k < ((rs[j]).map thr).length := by rw [List.length_map]; exact hk
  have l2' : 2 ≤ ((rs[j]).map thr).length := by rw [List.length_map]; omega
  have ga : ((rs[j]).map thr).getD ((k + ((rs[j]).map thr).length - 1) % ((rs[j]).map thr).length) (0, 0) = thr ((rs[j]).getD ((k + (rs[j]).length - 1) % (rs[j]).length) (0, 0)) := by rw [List.length_map]; exact thg _
  have gb := thg k
  have ba := rg.le _ ma
  have bb := rg.le _ mb
  generalize (rs[j]).getD ((k + (rs[j]).length - 1) % (rs[j]).length) (0, 0) = pa at ma ne ga ba
  generalize (rs[j]).getD k (0, 0) = pb at mb ne gb bb
  have tr := rgs_map (m' := 20000000000) (scl_ok (s := 3) (by decide)) thr_st h fun p hp => by
    unfold thr
    dsimp only
    omega
  have sum := ins_sum hk' l2' (c := (2 * pb.1 + pa.1, 2 * pb.2 + pa.2)) (by rw [ga, gb]; exact part3 ne)
  have tot1 : (rs[j]).length + 1 ≤ 24 := by
    have : (rs[j]).length ≤ (rs.map List.length).sum := List.le_sum_of_mem_nat (List.mem_map.mpr ⟨_, List.getElem_mem hj, rfl⟩)
    omega
  have li : (insAt k ((2 * pb.1 + pa.1, 2 * pb.2 + pa.2) : F2) ((rs[j]).map thr)).length = (rs[j]).length + 1 := by
    unfold insAt
    rw [List.length_append, List.length_cons, List.length_take, List.length_drop, List.length_map]
    omega
  refine ⟨⟨fun r hr => ?_, by rw [List.length_reverse, List.length_set, List.length_map]; exact h.l8, ?_⟩, fun d => ?_⟩
  · rcases List.mem_or_eq_of_mem_set (List.mem_reverse.mp hr) with q | q
    · exact tr.rg r q
    · have old := tr.rg _ (List.mem_of_getElem? hget)
      rw [q]
      have nsp : ∀ p q : F2, pb.1 - pa.1 = p.1 → pb.2 - pa.2 = p.2 → (p.1 ≠ 0 ∨ p.2 ≠ 0) := fun p q h1 h2 => by
        by_cases z : pb.1 - pa.1 = 0
        · right; intro y; exact ne (Prod.ext (by omega) (by omega))
        · left; omega
      have nn := nsp (pb.1 - pa.1, pb.2 - pa.2) (0, 0) rfl rfl
      refine ⟨ins_all hk' l2' ?_ ?_ old.ns, by rw [li]; omega, by rw [li]; exact tot1, fun p hp => ?_⟩
      · rw [ga]
        show 2 * pb.1 + pa.1 - 3 * pa.1 ≠ 0 ∨ 2 * pb.2 + pa.2 - 3 * pa.2 ≠ 0
        rcases nn with z | z
        · left; intro y; exact z (by show pb.1 - pa.1 = 0; omega)
        · right; intro y; exact z (by show pb.2 - pa.2 = 0; omega)
      · rw [gb]
        show 3 * pb.1 - (2 * pb.1 + pa.1) ≠ 0 ∨ 3 * pb.2 - (2 * pb.2 + pa.2) ≠ 0
        rcases nn with z | z
        · left; intro y; exact z (by show pb.1 - pa.1 = 0; omega)
        · right; intro y; exact z (by show pb.2 - pa.2 = 0; omega)
      · unfold insAt at hp
        rcases List.mem_append.mp hp with hp | hp
        · exact old.le p (List.mem_of_mem_take hp)
        · rcases List.mem_cons.mp hp with rfl | hp
          · dsimp only; omega
          · exact old.le p (List.mem_of_mem_drop hp)
  · rw [List.map_reverse, List.sum_reverse_nat, len_set hget (by rw [li, List.length_map])]
    have : ((rs.map fun r => r.map thr).map List.length).sum = (rs.map List.length).sum := by
      rw [List.map_map]
      congr 1
      exact List.map_congr_left fun r _ => List.length_map ..
    rw [this]
    omega
  · rw [smR_rev]
    have : smR ((rs.map fun r => r.map thr).set j (insAt k ((2 * pb.1 + pa.1, 2 * pb.2 + pa.2) : F2) ((rs[j]).map thr))) d = smR (rs.map fun r => r.map thr) d := sum_set (f := fun r => smD d (sds r)) hget (sum d)
    rw [this]
    exact smR_scl (by decide) thr_st h.ns d
theorem pN_ok2 {n m : Int} (n1 : 1 ≤ n) (n2 : n ≤ 12000000) (m2 : m ≤ 1000000000000) {p : F2} (h : -m ≤ p.1 ∧ p.1 ≤ m ∧ -m ≤ p.2 ∧ p.2 ≤ m) : PtP (pN n p) ∧ BP 64 (pN n p) := by
  obtain ⟨a, _, _, b1, b2, b3⟩ := npt_spec (a := p.1) (b := p.2) (n := n) (by omega)
  refine ⟨a, bits_om ?_ ?_, bits_om ?_ ?_, bits_om ?_ ?_⟩ <;> (unfold pN; omega)
theorem nrat_b2 {n s : Int} (n1 : 1 ≤ n) (n2 : n ≤ 12000000) (s1 : -10000000000000 ≤ s) (s2 : s ≤ 10000000000000) : Low (nrat s n).1 (nrat s n).2 ∧ intBits (nrat s n).1 ≤ 4000 ∧ intBits (nrat s n).2 ≤ 4000 := by
  obtain ⟨l, _, b1, b2⟩ := nrat_spec (t := s) (b := n) (by omega)
  exact ⟨l, Nat.le_trans (bits_om (by omega) (by omega)) (by decide), Nat.le_trans (bits_om (by omega) (by omega)) (by decide)⟩
end Cut
namespace L3
open PySem L2
theorem compLL_map {α : Type} {f : α → D} {h : α → List D} {u : UL} {fs : List Sl} : ∀ {rs : List α} {v0 : Sl} {k : List (List D) → Prop}, (∀ r ∈ rs, ∀ k : List D → Prop, k (h r) → u (.val (f r) :: fs) k) → k (rs.map h) → compLL (ugName 0) utTrue u (rs.map f) (v0 :: fs) k
  | [], v0, k, _, hk => hk
  | r :: rs, v0, k, hu, hk => by
    show (if true = true then u (.val (f r) :: fs) fun y => compLL (ugName 0) utTrue u (rs.map f) (.val (f r) :: fs) fun ys => k (y :: ys) else compLL (ugName 0) utTrue u (rs.map f) (.val (f r) :: fs) k)
    rw [if_pos rfl]
    exact hu r List.mem_cons_self _ (compLL_map (fun q hq => hu q (List.mem_cons_of_mem _ hq)) hk)
end L3

/-! Marks of tilted cloths as due; sums of marks. -/
namespace L3
open PySem L2
theorem compG_pr {α : Type} {f g h : α → D} {u : UE} {fs : List Sl} : ∀ {rs : List α} {v0 v1 : Sl} {k : List D → Prop}, (∀ r ∈ rs, ∀ k : D → Prop, k (h r) → u (.val (f r) :: .val (g r) :: fs) k) → k (rs.map h) → compG (ugTup 2 (ugCons (ugName 0) (ugCons (ugName 1) ugNil))) utTrue u (rs.map fun r => .tup [f r, g r]) (v0 :: v1 :: fs) k
  | [], _, _, _, _, hk => hk
  | r :: rs, v0, v1, k, hu, hk => by
    refine ⟨_, rfl, rfl, _, _, rfl, _, _, rfl, rfl, ?_⟩
    show (if true = true then u (.val (f r) :: .val (g r) :: fs) fun y => compG (ugTup 2 (ugCons (ugName 0) (ugCons (ugName 1) ugNil))) utTrue u (rs.map fun r => .tup [f r, g r]) (.val (f r) :: .val (g r) :: fs) fun ys => k (y :: ys) else compG (ugTup 2 (ugCons (ugName 0) (ugCons (ugName 1) ugNil))) utTrue u (rs.map fun r => .tup [f r, g r]) (.val (f r) :: .val (g r) :: fs) k)
    rw [if_pos rfl]
    exact hu r List.mem_cons_self _ (compG_pr (fun q hq => hu q (List.mem_cons_of_mem _ hq)) hk)
end L3
namespace Cut
open PySem L2 L3
open PySem.Builtin.Int (intBits)
theorem smD_ex {d : F2} : ∀ {es : List (F2 × F2)}, smD d es ≠ 0 → ∃ e ∈ es, dirE e = d
  | [], h => absurd rfl h
  | e :: es, h => by
    by_cases z : dirE e = d
    · exact ⟨e, List.mem_cons_self, z⟩
    · rw [smD, if_neg z, Int.zero_add] at h
      obtain ⟨x, hx, q⟩ := smD_ex h
      exact ⟨x, List.mem_cons_of_mem _ hx, q⟩
theorem smR_ex {d : F2} : ∀ {rs : RR}, smR rs d ≠ 0 → ∃ r ∈ rs, ∃ e ∈ sds r, dirE e = d
  | [], h => absurd rfl h
  | r :: rs, h => by
    by_cases z : smD d (sds r) = 0
    · have h' : smR rs d ≠ 0 := by
        unfold smR at h ⊢
        rw [List.map_cons, List.sum_cons, z, Int.zero_add] at h
        exact h
      obtain ⟨x, hx, q⟩ := smR_ex h'
      exact ⟨x, List.mem_cons_of_mem _ hx, q⟩
    · obtain ⟨e, he, q⟩ := smD_ex z
      exact ⟨r, List.mem_cons_self, e, he, q⟩
theorem sd_in {r : List F2} {e : F2 × F2} (he : e ∈ sds r) : e.1 ∈ r ∧ e.2 ∈ r := by
  obtain ⟨h1, h2⟩ := List.of_mem_zip he
  refine ⟨h1, ?_⟩
  rcases List.mem_append.mp h2 with h | h
  · exact List.mem_of_mem_drop h
  · exact List.mem_of_mem_take h
theorem abs_le_mul {x p a : Int} (p0 : p ≠ 0) (h : x * p = a) {M : Int} (b : -M ≤ a ∧ a ≤ M) : -M ≤ x ∧ x ≤ M := by
  have e : a.natAbs = x.natAbs * p.natAbs := by rw [← h, Int.natAbs_mul]
  have : x.natAbs * 1 ≤ x.natAbs * p.natAbs := Nat.mul_le_mul_left _ (by omega)
  omega
theorem dir_b {rs : RR} {d : F2} (ok : RgsOk 400000000 rs) (h : smR rs d ≠ 0) : DrOk d ∧ (-800000000 ≤ d.1 ∧ d.1 ≤ 800000000) ∧ (-800000000 ≤ d.2 ∧ d.2 ≤ 800000000) := by
  obtain ⟨r, hr, e, he, rfl⟩ := smR_ex h
  have ns := ok.ns r hr e he
  obtain ⟨m1, m2⟩ := sd_in he
  obtain ⟨a1, a2, a3, a4⟩ := (ok.rg r hr).le _ m1
  obtain ⟨b1, b2, b3, b4⟩ := (ok.rg r hr).le _ m2
  obtain ⟨s1, s2, _, _⟩ := wdir_spec ns
  have p0 := wpar_ne ns
  exact ⟨dr_of ns, abs_le_mul p0 s1 (by show _ ≤ e.2.1 - e.1.1 ∧ e.2.1 - e.1.1 ≤ _; omega), abs_le_mul p0 s2 (by show _ ≤ e.2.2 - e.1.2 ∧ e.2.2 - e.1.2 ≤ _; omega)⟩
theorem smR_b {rs : RR} {d : F2} (ok : RgsOk 400000000 rs) : -1000000000000 ≤ smR rs d ∧ smR rs d ≤ 1000000000000 := by
  have h := smR_le (rs := rs) (M := 800000000) (d := d) (by decide) fun r hr e he => by
    have ns := ok.ns r hr e he
    obtain ⟨m1, m2⟩ := sd_in he
    obtain ⟨a1, a2, a3, a4⟩ := (ok.rg r hr).le _ m1
    obtain ⟨b1, b2, b3, b4⟩ := (ok.rg r hr).le _ m2
    exact wpar_le ns (by show _ ≤ e.2.1 - e.1.1; omega) (by show e.2.1 - e.1.1 ≤ _; omega) (by show _ ≤ e.2.2 - e.1.2; omega) (by show e.2.2 - e.1.2 ≤ _; omega)
  have l := ok.l24
  omega
/-- the marks of a drawn cloth: sizes -/
theorem mk_b {rs : RR} {n : Int} {L : List (F2 × F2)} (ok : RgsOk 400000000 rs) (n1 : 1 ≤ n) (n2 : n ≤ 1000000) (mk : MkOk (smR rs) n L) : ∀ x ∈ L, DrOk x.1 ∧ (intBits x.1.1 ≤ 64 ∧ intBits x.1.2 ≤ 64) ∧ Low x.2.1 x.2.2 ∧ (intBits x.2.1 ≤ 64 ∧ intBits x.2.2 ≤ 64) ∧ x.2.1 * n = smR rs x.1 * x.2.2 ∧ smR rs x.1 ≠ 0 := fun x hx => by
  obtain ⟨h1, h2⟩ := (mk.mem x.1 x.2).mp hx
  obtain ⟨d1, d2, d3⟩ := dir_b ok h1
  have sb := smR_b (d := x.1) ok
  obtain ⟨l, e, b1, b2⟩ := nrat_spec (t := smR rs x.1) (b := n) (by omega)
  rw [← h2] at l e b1 b2
  exact ⟨d1, ⟨bits_om (by omega) (by omega), bits_om (by omega) (by omega)⟩, l, ⟨bits_om (by omega) (by omega), bits_om (by omega) (by omega)⟩, e, h1⟩
theorem mk_nd {S : F2 → Int} {n : Int} {L : List (F2 × F2)} (mk : MkOk S n L) : L.Pairwise fun a b => a.1 ≠ b.1 := mk.pw.imp fun {a b} h z => by
  rw [z, lex_irrefl] at h
  cases h
abbrev MKs := List (F2 × F2)
def dueX (t u : Int) (x : F2 × F2) : F2 × F2 := (trD (tltL t u) x.1, nrat (x.2.1 * trC (tltL t u) x.1) (x.2.2 * u))
theorem due_ok {rs : RR} {n t u : Int} {L : List (F2 × F2)} (ok : RgsOk 400000000 rs) (n1 : 1 ≤ n) (n2 : n ≤ 1000000) (u1 : 1 ≤ u) (mk : MkOk (smR rs) n L) {ks' : List (List (List Int))} (pm : ks'.Perm ((L.map (dueX t u)).map kM)) (pw : ks'.Pairwise Ahead) :
    ∃ M, ks'.map (keyD true) = M.map dMk ∧ MkOk (smR (rs.map fun r => r.map (tltL t u))) (n * u) M := by
  have ln := tlt_ok (t := t) (u := u) (by omega)
  have mb := mk_b ok n1 n2 mk
  have sv : ∀ x ∈ L, smR (rs.map fun r => r.map (tltL t u)) (trD (tltL t u) x.1) = smR rs x.1 * trC (tltL t u) x.1 := fun x hx => smR_tr ln (tlt_st t u) (mb x hx).1 ok.ns
  have c0 : ∀ x ∈ L, trC (tltL t u) x.1 ≠ 0 := fun x hx => wpar_ne (ln.nz _ (mb x hx).1.nz)
  have nz : ∀ x ∈ L, smR (rs.map fun r => r.map (tltL t u)) (trD (tltL t u) x.1) ≠ 0 := fun x hx => by
    rw [sv x hx]; exact Int.mul_ne_zero (mb x hx).2.2.2.2.2 (c0 x hx)
  refine mk_sort (ds := L.map fun x => trD (tltL t u) x.1) ?_ (fun d' hd => ?_) ?_ pw
  · refine List.pairwise_map.mpr (List.Pairwise.imp_of_mem (fun {a b} ha hb h z => h ?_) (mk_nd mk))
    exact ln_inj ln (mb a ha).1 (mb b hb).1 z
  · by_cases z : ∃ d, DrOk d ∧ trD (tltL t u) d = d'
    · obtain ⟨d, dk, rfl⟩ := z
      rw [smR_tr ln (tlt_st t u) dk ok.ns] at hd
      have h0 : smR rs d ≠ 0 := fun q => hd (by rw [q, Int.zero_mul])
      exact List.mem_map.mpr ⟨(d, nrat (smR rs d) n), (mk.mem _ _).mpr ⟨h0, rfl⟩, rfl⟩
    · exact absurd (smR_off ln (tlt_st t u) (fun d dk q => z ⟨d, dk, q⟩) ok.ns) hd
  · have f : ((L.map fun x => trD (tltL t u) x.1).filter fun d => decide (smR (rs.map fun r => r.map (tltL t u)) d ≠ 0)) = L.map fun x => trD (tltL t u) x.1 := List.filter_eq_self.mpr fun d hd => by
      obtain ⟨x, hx, rfl⟩ := List.mem_map.mp hd
      exact decide_eq_true (nz x hx)
    rw [f]
    have e : L.map (dueX t u) = L.map ((fun d => (d, nrat (smR (rs.map fun r => r.map (tltL t u)) d) (n * u))) ∘ fun x => trD (tltL t u) x.1) := List.map_congr_left fun x hx => by
      show (trD (tltL t u) x.1, _) = (trD (tltL t u) x.1, _)
      congr 1
      rw [sv x hx]
      have e1 := (mb x hx).2.2.2.2.1
      have l0 := (mb x hx).2.2.1.1
      exact nrat_cross (Int.ne_of_gt (Int.mul_pos l0 (by omega))) (Int.ne_of_gt (Int.mul_pos (by omega) (by omega))) (by grind)
    rw [e, ← List.map_map] at pm
    exact pm
/-! ### all marks times their directions -/
def prB : List (F2 × F2) → Int → Int
  | [], p => p
  | x :: L, p => prB L (p * x.2.2)
theorem prB_dvd : ∀ {L : List (F2 × F2)} {p : Int}, p ∣ prB L p ∧ ∀ x ∈ L, x.2.2 ∣ prB L p
  | [], p => ⟨Int.dvd_refl _, fun x h => by simp at h⟩
  | y :: L, p => by
    obtain ⟨a, b⟩ := prB_dvd (L := L) (p := p * y.2.2)
    refine ⟨Int.dvd_trans (Int.dvd_mul_right _ _) a, fun x h => ?_⟩
    rcases List.mem_cons.mp h with rfl | h
    · exact Int.dvd_trans (Int.dvd_mul_left _ _) a
    · exact b x h
theorem prB_app (L : List (F2 × F2)) (x : F2 × F2) : ∀ p, prB (L ++ [x]) p = prB L p * x.2.2 := by
  induction L with
  | nil => intro p; rfl
  | cons y L ih => intro p; exact ih _
theorem noth_sum {L : List (F2 × F2)} {n P : Int} {S g : F2 → Int} (n0 : 0 < n) (h : ∀ x ∈ L, 0 < x.2.2 ∧ x.2.1 * n = S x.1 * x.2.2 ∧ x.2.2 ∣ P) (z : (L.map fun x => g x.1 * S x.1).sum = 0) : (L.map fun x => g x.1 * x.2.1 * (P.fdiv x.2.2)).sum = 0 := by
  have key : ∀ M : List (F2 × F2), (∀ x ∈ M, 0 < x.2.2 ∧ x.2.1 * n = S x.1 * x.2.2 ∧ x.2.2 ∣ P) → n * (M.map fun x => g x.1 * x.2.1 * (P.fdiv x.2.2)).sum = P * (M.map fun x => g x.1 * S x.1).sum := fun M => by
    induction M with
    | nil => intro _; simp
    | cons x M ih =>
      intro hm
      rw [List.map_cons, List.sum_cons, List.map_cons, List.sum_cons, Int.mul_add, Int.mul_add, ih fun y hy => hm y (List.mem_cons_of_mem _ hy)]
      obtain ⟨p0, e, ⟨q, hq⟩⟩ := hm x List.mem_cons_self
      have fd : P.fdiv x.2.2 = q := by rw [hq]; exact Int.mul_fdiv_cancel_left _ (by omega)
      rw [fd]
      congr 1
      rw [hq]
      grind
  have := key L h
  rw [z, Int.mul_zero] at this
  rcases Int.mul_eq_zero.mp this with q | q
  · omega
  · exact q
end Cut

namespace Cut
open PySem L2 L3
open PySem.Builtin.Int (intBits)

structure Blts (mg : Str → Option Value) : Prop where
  len_ : mg "len" = none
  abs_ : mg "abs" = none
  int_ : mg "int" = none
  bool_ : mg "bool" = none
  tuple_ : mg "tuple" = none
  isinstance_ : mg "isinstance" = none
  range_ : mg "range" = none
  all_ : mg "all" = none
  sum_ : mg "sum" = none
  list_ : mg "list" = none
  ValueError_ : mg "ValueError" = none
  zip_ : mg "zip" = none
  str_ : mg "str" = none
  enumerate_ : mg "enumerate" = none
  set_ : mg "set" = none
  max_ : mg "max" = none
  min_ : mg "min" = none
  sorted_ : mg "sorted" = none
local macro_rules | `(tactic| walk_at "bu") => `(tactic| first | assumption | exact intBits_sub_le (by walk_at "bu") (by walk_at "bu") | exact intBits_add_le (by walk_at "bu") (by walk_at "bu") | exact intBits_mul_le (by walk_at "bu") (by walk_at "bu") | exact intBits_neg_le (by walk_at "bu") | exact intBits_fdiv_le (by walk_at "bu") | exact bits_om (by omega) (by omega) | fail)
local macro_rules | `(tactic| walk_at "bits") => `(tactic| ((with_reducible show intBits _ ≤ _); first | assumption | exact Nat.le_trans (bits_om (by omega) (by omega)) (by decide) | decide +kernel | exact Nat.le_trans (by walk_at "bu") (by first | omega | decide) | fail))
local macro_rules | `(tactic| walk_at "sd") => `(tactic| first | ((with_reducible show intBits _ ≤ _); walk_at "bits") | ((with_reducible show CMulB _ _); exact ⟨by walk_at "bits", by walk_at "bits"⟩) | ((with_reducible show CDivB _ _); exact ⟨by omega, by walk_at "bits"⟩) | ((with_reducible show (_ : Int) < _); first | omega | decide +kernel) | ((with_reducible show (_ : Int) ≤ _); first | omega | decide +kernel) | ((with_reducible show CPow _ _); exact ⟨by decide, by decide, by decide⟩) | ((with_reducible show List.length _ ≤ sizeLine); first | (show 2 ≤ sizeLine; decide) | (show 3 ≤ sizeLine; decide) | (show 1 ≤ sizeLine; decide) | (show 0 ≤ sizeLine; decide) | (show 4 ≤ sizeLine; decide)) | fail)
local macro_rules | `(tactic| walk_at "w1") => `(tactic| first | refine ⟨_, rfl, ?_⟩ | refine ⟨_, _, rfl, rfl, ?_⟩ | refine ⟨_, _, rfl, rfl, by walk_at "sd", ?_⟩ | refine ⟨_, _, _, .inl rfl, rfl, rfl, ?_⟩ | refine ⟨_, _, _, .inr rfl, rfl, rfl, ?_⟩ | refine ⟨_, _, rfl, fun _ => rfl, ?_⟩ | refine ⟨by walk_at "sd", ?_⟩ | refine ⟨rfl, ?_⟩)
local macro_rules | `(tactic| walk_at "w") => `(tactic| repeat walk_at "w1")
local macro_rules | `(tactic| walk_at "wd") => `(tactic| (walk_at "w"; try dsimp only [fzR]))
local macro_rules | `(tactic| walk_at "it") => `(tactic| first | exact .inl (by assumption) | exact .inr (by assumption))
local macro_rules | `(tactic| walk_at "r0") => `(tactic| repeat (first | refine ⟨_, rfl, ?_⟩ | refine ⟨_, _, rfl, rfl, ?_⟩ | refine ⟨_, _, _, _, rfl, rfl, by walk_at "it", rfl, ?_⟩ | refine ⟨by walk_at "sd", ?_⟩))
local macro_rules | `(tactic| walk_at "rd") => `(tactic| (walk_at "r0"; try dsimp only))
local macro_rules | `(tactic| walk_at "fall") => `(tactic| first | exact List.forall_mem_cons.mpr ⟨rfl, by walk_at "fall"⟩ | exact List.forall_mem_nil _)
local macro_rules | `(tactic| walk_at "fal2") => `(tactic| first | exact List.forall_mem_nil _ | exact List.forall_mem_cons.mpr ⟨fun h => absurd h (by decide), by walk_at "fal2"⟩ | exact List.forall_mem_cons.mpr ⟨fun _ => ⟨_, rfl⟩, by walk_at "fal2"⟩)
local macro_rules | `(tactic| walk_at "fsub") => `(tactic| exact fsub_of (by walk_at "fall"))
local macro_rules | `(tactic| walk_at "fhas") => `(tactic| exact fhas_of (by walk_at "fal2"))
local macro_rules | `(tactic| walk_at "ffr") => `(tactic| (intro i y e; rcases i with _ | _ | _ | _ | _ | i <;> first | (cases e; done) | (cases e; exact ⟨_, rfl, rfl, rfl, Or.inl rfl, _, rfl⟩)))

theorem sc_law_cell : FnScope ["_law_script", "_law_k"] ["_law_script", "_law_k"] (defScope s_law_cell) := ⟨rfl, rfl, rfl, by decide +kernel, rfl, by decide +kernel, by decide +kernel⟩
theorem ok_law_cell {P : Program} {w : World} {K : PySem.W.Frag} {mg : Str → Option Value} {base : Heap} (B : Blts mg) (F : Fnd K mg "_law_cell" s_law_cell ["_law_script", "_law_k"]) :
    Cal P w K mg base "_law_cell" ["_law_script", "_law_k"] 1 (Con K 2 F_cell) := by
  refine Cal.imp (sp := spCell K) ?_ (fun vs H Q E h => cell_con h)
  refine F.ok (k := 0) sc_law_cell (fun vs H Q E h => ?_) (fun f cdv A outer s H vs Q E hr h => ?_)
  · obtain ⟨a, k, ns, rfl, hS, h0, q⟩ := h
    rfl
  obtain ⟨a, k, ns, rfl, hS, h0, q⟩ := h
  refine ⟨_, (pss_cons (ps_if (pt_cmpR op_lt (pv 1) (pe_callB call_len_seq (by rfl) B.len_ (by decide +kernel) (pa_cons (pv 0) pa_nil)) (nomark _)) (pss_one (ps_ret (pe_ix ix_list (pv 0) (pv 1) (fun _ _ => rfl)))) pss_nil) (pss_one (ps_ret pe_int))), ?_⟩
  refine ⟨_, rfl, _, rfl, a, _, rfl, .inl hS, _, _, rfl, rfl, _, rfl, ?_⟩
  refine iteD (fun c => ?_) (fun c => ?_)
  · rw [List.length_map] at c
    have hk : k.toNat < ns.length := by omega
    have ek : k = ((k.toNat : Nat) : Int) := by omega
    have z : atI (ns.map V.int) ((k.toNat : Nat) : Int) = some (.int ns[k.toNat]) := atI_nat (by rw [List.getElem?_map, List.getElem?_eq_getElem hk] <;> rfl)
    rw [← ek] at z
    exact ⟨_, rfl, _, rfl, a, _, _, _, rfl, rfl, hS, z, q _⟩
  · exact q _

theorem sc_law_bag : FnScope ["_law_cell_here"] ["_law_cell_here"] (defScope s_law_bag) := ⟨rfl, rfl, rfl, by decide +kernel, rfl, by decide +kernel, by decide +kernel⟩
theorem ok_bagB {P : Program} {w : World} {K : PySem.W.Frag} {mg : Str → Option Value} {base : Heap} (B : Blts mg) (F : Fnd K mg "_law_bag" s_law_bag ["_law_cell_here"]) :
    Cal P w K mg base "_law_bag" ["_law_cell_here"] 1 (Con K 1 F_bag) := by
  refine Cal.imp (sp := spBag) ?_ (fun vs H Q E h => bag_con h)
  refine F.ok (k := 0) sc_law_bag (fun vs H Q E h => ?_) (fun f cdv A outer s H vs Q E hr h => ?_)
  · obtain ⟨c, rfl, q⟩ := h
    rfl
  obtain ⟨c, rfl, q⟩ := h
  refine ⟨_, (pss_cons (ps_if (pt_cmpR op_ge (pv 0) (pe_op op_pow pe_int pe_int) (nomark _)) (pss_one (ps_ret (pe_lst (pa_cons (pe_op op_mod (pv 0) (pe_op op_mulB (pe_op op_pow pe_int pe_int) (pe_op op_pow pe_int pe_int))) (pa_cons (pe_op op_mod (pv 0) pe_int) pa_nil))))) pss_nil) (pss_one (ps_ret (pe_lst (pa_cons pe_int (pa_cons (pe_op op_mod (pe_op op_add (pe_op op_mulB (pe_op op_mod (pv 0) pe_int) pe_int) pe_int) pe_int) pa_nil)))))), ?_⟩
  walk_at "rd"
  refine iteD (fun g => ?_) (fun g => ?_)
  · walk_at "rd"
    refine (fun p hp => q p _ _ hp (Int.emod_nonneg _ (by decide +kernel)) (Int.emod_nonneg _ (by decide)) (Int.emod_lt_of_pos _ (by decide)))
  · have m0 := Int.emod_nonneg c (show (2147483647 : Int) ≠ 0 by decide)
    have m1 := Int.emod_lt_of_pos c (show (0 : Int) < 2147483647 by decide)
    walk_at "rd"
    refine (fun p hp => q p _ _ hp (by decide) (Int.emod_nonneg _ (by decide)) (Int.emod_lt_of_pos _ (by decide)))

theorem sc_law_draw : FnScope ["_law_bag_here", "_law_many", "_law_found"] ["_law_bag_here", "_law_many"] (defScope s_law_draw) := ⟨rfl, rfl, rfl, by decide +kernel, rfl, by decide +kernel, by decide +kernel⟩
theorem ok_drawB {P : Program} {w : World} {K : PySem.W.Frag} {mg : Str → Option Value} {base : Heap} (B : Blts mg) (F : Fnd K mg "_law_draw" s_law_draw ["_law_bag_here", "_law_many"]) :
    Cal P w K mg base "_law_draw" ["_law_bag_here", "_law_many"] 1 (Con K 2 (F_draw 400)) := by
  refine Cal.imp (sp := spDraw 400) ?_ (fun vs H Q E h => draw_con h)
  refine F.ok (k := 0) sc_law_draw (fun vs H Q E h => ?_) (fun f cdv A outer s H vs Q E hr h => ?_)
  · obtain ⟨b, m, rfl, ⟨x, y, hb, x0, y0, y1⟩, m0, m1, q⟩ := h
    rfl
  obtain ⟨b, m, rfl, ⟨x, y, hb, x0, y0, y1⟩, m0, m1, q⟩ := h
  refine ⟨_, (pss_cons (ps_if (pt_cmpR op_ge (pe_ix ix_any (pv 0) pe_int (fun _ _ => rfl)) (pv 1) (nomark _)) (pss_cons (ps_set (i := 2) sc_law_draw.nd rfl (Or.inl rfl) (pe_op op_mod (pe_ix ix_any (pv 0) pe_int (fun _ _ => rfl)) (pv 1))) (pss_cons (ps_asg (pe_op op_fdivB (pe_ix ix_any (pv 0) pe_int (fun _ _ => rfl)) (pv 1)) (pg_sub (pv 0) pe_int set_list)) (pss_one (ps_ret (pv 2))))) pss_nil) (pss_cons (ps_asg pe_int (pg_sub (pv 0) pe_int set_list)) (pss_cons (ps_asg (pe_op op_mod (pe_op op_add (pe_op op_mulB (pe_ix ix_any (pv 0) pe_int (fun _ _ => rfl)) pe_int) pe_int) pe_int) (pg_sub (pv 0) pe_int set_list)) (pss_one (ps_ret (pe_op op_mod (pe_op op_fdivB (pe_op op_mod (pe_op op_mulB (pe_ix ix_any (pv 0) pe_int (fun _ _ => rfl)) (pe_op op_add (pe_op op_fdivB (pe_ix ix_any (pv 0) pe_int (fun _ _ => rfl)) pe_int) pe_int)) pe_int) pe_int) (pv 1))))))), ?_⟩
  walk_at "rd"
  refine iteD (fun g => ?_) (fun g => ?_)
  · walk_at "rd"
    refine ⟨b, _, _, _, rfl, rfl, hb, rfl, ?_⟩
    refine ⟨_, rfl, ?_⟩
    refine q _ _ (Ext.upd b H _) ⟨_, _, upd_same, ?_, y0, y1⟩ (Int.emod_nonneg _ (by omega)) (Int.emod_lt_of_pos _ m0)
    exact Int.fdiv_nonneg x0 (Int.le_of_lt m0)
  · walk_at "rd"
    refine ⟨b, _, _, _, rfl, rfl, hb, rfl, ?_⟩
    have hb1 : (upd H b (.lst ([V.int x, V.int y].set (Int.toNat 0) (V.int 0)))) b = some (.lst [.int 0, .int y]) := upd_same
    have e1 := Ext.upd b H (.lst ([V.int x, V.int y].set (Int.toNat 0) (V.int 0)))
    generalize upd H b (.lst ([V.int x, V.int y].set (Int.toNat 0) (V.int 0))) = H1 at hb1 e1 ⊢
    have m2 := Int.emod_nonneg (y * 48271 + 4099) (show (2147483647 : Int) ≠ 0 by decide)
    have m3 := Int.emod_lt_of_pos (y * 48271 + 4099) (show (0 : Int) < 2147483647 by decide)
    walk_at "rd"
    refine ⟨b, _, _, _, rfl, rfl, hb1, rfl, ?_⟩
    generalize (y * 48271 + 4099) % 2147483647 = z at m2 m3 ⊢
    have hb2 : (upd H1 b (.lst ([V.int 0, V.int y].set (Int.toNat 1) (V.int z)))) b = some (.lst [.int 0, .int z]) := upd_same
    have k0 := Int.ediv_nonneg m2 (show (0 : Int) ≤ 65536 by decide)
    have k1 : z / 65536 ≤ z := Int.ediv_le_self _ m2
    have ek : Int.fdiv z 65536 = z / 65536 := Int.fdiv_eq_ediv_of_nonneg z (by decide)
    have kb : intBits (Int.fdiv z 65536 + 7) ≤ 64 := by rw [ek]; exact bits_om (by omega) (by omega)
    walk_at "rd"
    refine q _ _ (e1.trans (Ext.upd b H1 _)) ⟨_, _, hb2, by decide, m2, m3⟩ (Int.emod_nonneg _ (by omega)) (Int.emod_lt_of_pos _ m0)

theorem sc_law_measure : FnScope ["_law_one", "_law_other", "_law_rest"] ["_law_one", "_law_other"] (defScope s_law_measure) := ⟨rfl, rfl, rfl, by decide +kernel, rfl, by decide +kernel, by decide +kernel⟩

def F_law_measure : FS := fun as k => ∃ (a b : Int), as = [.val (.int a), .val (.int b)] ∧ k (.val (.int (Int.gcd a b : Nat)))
theorem ok_law_measure {P : Program} {w : World} {K : PySem.W.Frag} {mg : Str → Option Value} {base : Heap} (B : Blts mg)   (F : Fnd K mg "_law_measure" s_law_measure ["_law_one", "_law_other"])  :
    Cal P w K mg base "_law_measure" ["_law_one", "_law_other"] 2 (Con K 2 F_law_measure) := by
  refine def3 (lv := 1) F sc_law_measure rfl (fun f cdv A outer s H E hr => ⟨_, (s_cons (s_set (i := 0) sc_law_measure.nd rfl (Or.inl rfl) (e_abs (v3 0) (by rfl) B.abs_)) (s_cons (s_set (i := 1) sc_law_measure.nd rfl (Or.inl rfl) (e_abs (v3 1) (by rfl) B.abs_)) (s_cons (s_while PassesOwn.never (t_cmp (f := fun i j => decide (j < i)) op_gt (v3 1) e_int (nomark _)) (s_cons (s_set (i := 2) sc_law_measure.nd rfl (Or.inl rfl) (e_mod (v3 0) (v3 1))) (s_cons (s_set (i := 0) sc_law_measure.nd rfl (Or.inl rfl) (v3 1)) (s_one (s_set (i := 1) sc_law_measure.nd rfl (Or.inl rfl) (v3 2)))))) (s_one (s_ret (v3 0)))))), ?_⟩)
  rintro as k hl ⟨a, b, rfl, hk⟩
  refine at3 (r := [.val (.int a), .val (.int b), .no]) rfl ?_
  walk_at "wd"
  refine ⟨fun m ρ => ∃ (x y : Int) (v : Sl), ρ = [.val (.int x), .val (.int y), v] ∧ 0 ≤ x ∧ 0 ≤ y ∧ Int.gcd x y = Int.gcd a b ∧ m = y.toNat, ⟨_, _, _, _, rfl, ?_, ?_, gcd_abs a b, rfl⟩, ?_⟩
  · split <;> omega
  · split <;> omega
  rintro m ρ ⟨x, y, v, rfl, x0, y0, hg, rfl⟩
  walk_at "wd"
  refine iteD (fun g => ?_) (fun g => ?_)
  · walk_at "wd"
    have m0 := Int.emod_nonneg x (show y ≠ 0 by omega)
    have m1 := Int.emod_lt_of_pos x g
    exact ⟨_, by omega, _, _, _, rfl, y0, m0, by rw [gcd_step x0 g]; exact hg, rfl⟩
  · have e : y = 0 := by omega
    subst e
    refine ⟨_, rfl, ?_⟩
    rw [← gcd_zero_left x0, hg]
    exact hk

theorem sc_law_low : FnScope ["_law_top", "_law_bottom", "_law_often"] ["_law_top", "_law_bottom"] (defScope s_law_low) := ⟨rfl, rfl, rfl, by decide +kernel, rfl, by decide +kernel, by decide +kernel⟩

def F_lowT : FS := fun as k => ∃ (t b : Int), as = [.val (.int t), .val (.int b)] ∧ (0 < b) ∧ (intBits b ≤ 9000) ∧ k (.val (dR (nrat t b)))
theorem ok_lowT {P : Program} {w : World} {K : PySem.W.Frag} {mg : Str → Option Value} {base : Heap} (B : Blts mg)   (F : Fnd K mg "_law_low" s_law_low ["_law_top", "_law_bottom"]) (c_law_measure : Cal P w K mg base "_law_measure" ["_law_one", "_law_other"] 2 (Con K 2 F_law_measure)) :
    Cal P w K mg base "_law_low" ["_law_top", "_law_bottom"] 3 (Con K 2 F_lowT) := by
  refine def3 (lv := 2) F sc_law_low rfl (fun f cdv A outer s H E hr => ⟨_, (s_cons (s_set (i := 2) sc_law_low.nd rfl (Or.inl rfl) (e_call c_law_measure hr (by rfl) (a_val (v3 0) (a_val (v3 1) a_nil)))) (s_cons (s_if (t_cmp (f := fun i j => decide (i < j)) op_lt (v3 1) e_int (nomark _)) (s_one (s_set (i := 2) sc_law_low.nd rfl (Or.inl rfl) (e_neg (v3 2)))) s_nil) (s_one (s_ret (e_tup (l_cons (e_fdiv (v3 0) (v3 2)) (l_cons (e_fdiv (v3 1) (v3 2)) l_nil))))))), ?_⟩)
  rintro as k hl ⟨t, b, rfl, hb, bb, hk⟩
  refine at3 (r := [.val (.int t), .val (.int b), .no]) rfl ?_
  have gp := gcd_pos (t := t) (b := b) (by omega)
  have gb := gcd_bits (a := t) (b := b) (by omega) bb
  have e : gsg t b = ((Int.gcd t b : Nat) : Int) := by unfold gsg; rw [if_neg (by omega)]
  have hk : k (.val (.tup [.int (t.fdiv ((Int.gcd t b : Nat) : Int)), .int (b.fdiv ((Int.gcd t b : Nat) : Int))])) := by
    have h := hk
    unfold dR nrat at h
    rw [e] at h
    exact h
  walk_at "w"
  refine ⟨_, _, rfl, ?_⟩
  dsimp only [fzR]
  walk_at "wd"
  refine iteD (fun g => absurd g (by omega)) (fun _ => ?_)
  walk_at "w"
  exact hk

theorem sc_law_spot : FnScope ["_law_x", "_law_y", "_law_bottom", "_law_often"] ["_law_x", "_law_y", "_law_bottom"] (defScope s_law_spot) := ⟨rfl, rfl, rfl, by decide +kernel, rfl, by decide +kernel, by decide +kernel⟩

def F_spotB : FS := fun as k => ∃ (x y n : Int), as = [.val (.int x), .val (.int y), .val (.int n)] ∧ (0 < n) ∧ (intBits n ≤ 9000) ∧ k (.val (dP (npt x y n)))
theorem ok_spotB {P : Program} {w : World} {K : PySem.W.Frag} {mg : Str → Option Value} {base : Heap} (B : Blts mg)   (F : Fnd K mg "_law_spot" s_law_spot ["_law_x", "_law_y", "_law_bottom"]) (c_law_measure : Cal P w K mg base "_law_measure" ["_law_one", "_law_other"] 2 (Con K 2 F_law_measure)) :
    Cal P w K mg base "_law_spot" ["_law_x", "_law_y", "_law_bottom"] 3 (Con K 3 F_spotB) := by
  refine def3 (lv := 2) F sc_law_spot rfl (fun f cdv A outer s H E hr => ⟨_, (s_cons (s_set (i := 3) sc_law_spot.nd rfl (Or.inl rfl) (e_call c_law_measure hr (by rfl) (a_val (e_call c_law_measure hr (by rfl) (a_val (v3 0) (a_val (v3 1) a_nil))) (a_val (v3 2) a_nil)))) (s_one (s_ret (e_tup (l_cons (e_fdiv (v3 0) (v3 3)) (l_cons (e_fdiv (v3 1) (v3 3)) (l_cons (e_fdiv (v3 2) (v3 3)) l_nil))))))), ?_⟩)
  rintro as k hl ⟨x, y, n, rfl, hn, bn, hk⟩
  refine at3 (r := [.val (.int x), .val (.int y), .val (.int n), .no]) rfl ?_
  walk_at "w"
  refine ⟨_, _, rfl, ?_⟩
  walk_at "w"
  refine ⟨_, _, rfl, ?_⟩
  have n0 : n ≠ 0 := by omega
  have gp := g3_pos (a := x) (b := y) n0
  have gb := g3_bits (a := x) (b := y) n0 bn
  have e : gsp x y n = g3 x y n := by unfold gsp; rw [if_neg (by omega)]
  have eg : ((Int.gcd ((Int.gcd x y : Nat) : Int) n : Nat) : Int) = g3 x y n := g3_xy x y n
  have hk : k (.val (.tup [.int (x.fdiv (g3 x y n)), .int (y.fdiv (g3 x y n)), .int (n.fdiv (g3 x y n))])) := by
    have h := hk
    unfold dP npt at h
    rw [e] at h
    exact h
  dsimp only [fzR]
  rw [eg]
  generalize g3 x y n = g at gp gb hk ⊢
  walk_at "w"
  exact hk

theorem sc_law_star : FnScope ["_law_bag_here", "_law_most", "_law_far", "_law_spokes", "_law_shift", "_law_left", "_law_ring", "_law_k", "_law_x", "_law_y", "_law_turn", "_law_long", "_law_more"] ["_law_bag_here", "_law_most", "_law_far"] (defScope s_law_star) := ⟨rfl, rfl, rfl, by decide +kernel, rfl, by decide +kernel, by decide +kernel⟩

def F_starC : FS := fun as k => ∃ (mo fa : Int), as = [.bag, .val (.int mo), .val (.int fa)] ∧ (3 ≤ mo) ∧ (mo ≤ 24) ∧ (1 ≤ fa) ∧ (fa ≤ 1000000) ∧ ∀ sel, StarOk fa mo sel → k (.val (.lst ((sel.map spt).map dR)))
theorem ok_starC {P : Program} {w : World} {K : PySem.W.Frag} {mg : Str → Option Value} {base : Heap} (B : Blts mg)   (F : Fnd K mg "_law_star" s_law_star ["_law_bag_here", "_law_most", "_law_far"]) (c_law_draw : Cal P w K mg base "_law_draw" ["_law_bag_here", "_law_many"] 1 (Con K 2 (F_draw 400))) :
    Cal P w K mg base "_law_star" ["_law_bag_here", "_law_most", "_law_far"] 2 (Con K 3 F_starC) := by
  refine def3 (lv := 1) F sc_law_star rfl (fun f cdv A outer s H E hr => ⟨_, (s_cons (s_set (i := 3) sc_law_star.nd rfl (Or.inl rfl) (e_tup (l_cons (e_tup (l_cons e_int (l_cons e_int l_nil))) (l_cons (e_tup (l_cons e_int (l_cons e_int l_nil))) (l_cons (e_tup (l_cons e_int (l_cons e_int l_nil))) (l_cons (e_tup (l_cons e_int (l_cons e_int l_nil))) (l_cons (e_tup (l_cons e_int (l_cons e_int l_nil))) (l_cons (e_tup (l_cons e_int (l_cons e_int l_nil))) l_nil)))))))) (s_cons (s_set (i := 4) sc_law_star.nd rfl (Or.inl rfl) (e_call c_law_draw hr (by rfl) (a_bag 0 (a_val e_int a_nil)))) (s_cons (s_set (i := 5) sc_law_star.nd rfl (Or.inl rfl) (e_sub (v3 1) e_int)) (s_cons (s_setO (i := 6) sc_law_star.nd rfl (Or.inl rfl) (o_lst l_nil)) (s_cons (s_for PassesOwn.never rfl (i_rng e_int (by rfl) B.range_) (g_name (i := 7) sc_law_star.nd rfl (Or.inl rfl)) (s_cons (s_asg (e_ix (v3 3) (e_mod (v3 7) e_int) (fun _ _ => rfl)) (g_tup (n := 2) rfl (gs_cons (g_name (i := 8) sc_law_star.nd rfl (Or.inl rfl)) (gs_cons (g_name (i := 9) sc_law_star.nd rfl (Or.inl rfl)) gs_nil)))) (s_cons (s_for PassesOwn.never rfl (i_rng (e_fdiv (v3 7) e_int) (by rfl) B.range_) (g_name (i := 10) sc_law_star.nd rfl (Or.inl rfl)) (s_one (s_par (i := 8) (j := 9) rfl sc_law_star.nd rfl rfl (by decide) rfl rfl (l_cons (e_neg (v3 9)) (l_cons (v3 8) l_nil)) rfl))) (s_cons (s_set (i := 11) sc_law_star.nd rfl (Or.inl rfl) (e_add e_int (e_call c_law_draw hr (by rfl) (a_bag 0 (a_val (v3 2) a_nil))))) (s_cons (s_set (i := 12) sc_law_star.nd rfl (Or.inl rfl) (e_and (e_cmp (f := fun i j => decide (j < i)) op_gt (v3 5) e_int (nomark _)) (e_one (e_cmp (f := fun i j => decide (i < j)) op_lt (e_call c_law_draw hr (by rfl) (a_bag 0 (a_val e_int a_nil))) (v3 1) (nomark _))))) (s_one (s_if (t_cmp (f := fun i j => decide (i = j)) op_eqI (e_mod (v3 7) e_int) (v3 4) (nomark _)) (s_one (s_app 6 (e_tup (l_cons (e_mul (v3 11) (v3 8)) (l_cons (e_mul (v3 11) (v3 9)) l_nil))))) (s_one (s_if (t_val (v3 12)) (s_cons (s_app 6 (e_tup (l_cons (e_mul (v3 11) (v3 8)) (l_cons (e_mul (v3 11) (v3 9)) l_nil)))) (s_one (s_augS (i := 5) sc_law_star.nd rfl (Or.inl rfl) e_int))) s_nil))))))))) (s_fz 6 (s_one (s_ret (v3 6))))))))), ?_⟩)
  rintro as k hl ⟨mo, fa, rfl, m1, m2, f1, f2, hk⟩
  refine at3 (r := [.bag, .val (.int mo), .val (.int fa), .no, .no, .no, .no, .no, .no, .no, .no, .no, .no]) rfl ?_
  have big : 10000 ≤ sizeLine := by decide
  have t2 : 2 ≤ sizeLine := by decide
  have t6 : 6 ≤ sizeLine := by decide
  refine mid4 (fun ρ => ρ = [.bag, .val (.int mo), .val (.int fa), .val (.tup (sp6.map dR)), .no, .no, .no, .no, .no, .no, .no, .no, .no]) ?_ (fun N kk => ⟨t2, t2, t2, t2, t2, t2, t6, kk _ rfl⟩)
  rintro ρ rfl
  refine mid4 (fun ρ => ∃ sh : Int, 0 ≤ sh ∧ sh < 8 ∧ ρ = [.bag, .val (.int mo), .val (.int fa), .val (.tup (sp6.map dR)), .val (.int sh), .no, .no, .no, .no, .no, .no, .no, .no]) ?_ (fun N kk => ?_)
  rotate_left
  · walk_at "w"
    intro sh s0 s1
    exact kk _ ⟨sh, s0, s1, rfl⟩
  rintro ρ ⟨sh, s0, s1, rfl⟩
  refine mid4 (fun ρ => ρ = [.bag, .val (.int mo), .val (.int fa), .val (.tup (sp6.map dR)), .val (.int sh), .val (.int (mo - 3)), .no, .no, .no, .no, .no, .no, .no]) ?_ (fun N kk => ⟨_, rfl, _, _, rfl, rfl, kk _ rfl⟩)
  rintro ρ rfl
  refine mid4 (fun ρ => ρ = [.bag, .val (.int mo), .val (.int fa), .val (.tup (sp6.map dR)), .val (.int sh), .val (.int (mo - 3)), .own (.l ((([] : List (Nat × Int)).map spt).map dR)), .no, .no, .no, .no, .no, .no]) ?_ (fun N kk => ⟨Nat.zero_le _, kk _ rfl⟩)
  rintro ρ rfl
  refine ⟨_, rfl, by decide, by decide, ?_⟩
  refine forR_rng (fun i ρ => ∃ (sel : List (Nat × Int)) (lf : Int) (v7 v8 v9 v10 v11 v12 : Sl), ρ = [.bag, .val (.int mo), .val (.int fa), .val (.tup (sp6.map dR)), .val (.int sh), .val (.int lf), .own (.l ((sel.map spt).map dR)), v7, v8, v9, v10, v11, v12] ∧ SelOk sh fa mo lf i sel) ⟨[], mo - 3, _, _, _, _, _, _, rfl, SelOk.start m1⟩ ?_ (fun ρ h => ?_)
  rotate_left
  · obtain ⟨sel, lf, v7, v8, v9, v10, v11, v12, rfl, ok⟩ := h
    exact ⟨_, rfl, _, rfl, hk sel (ok.star s0 s1)⟩
  rintro i ρ hi ⟨sel, lf, v7, v8, v9, v10, v11, v12, rfl, ok⟩ N kk
  have h6 : i % 6 < 6 := Nat.mod_lt _ (by decide)
  refine mid4 (fun ρ => ρ = [.bag, .val (.int mo), .val (.int fa), .val (.tup (sp6.map dR)), .val (.int sh), .val (.int lf), .own (.l ((sel.map spt).map dR)), .val (.int i), .val (.int (rotN 0 (sp6.getD (i % 6) (0, 0))).1), .val (.int (rotN 0 (sp6.getD (i % 6) (0, 0))).2), v10, v11, v12]) ?_ (fun N kk => ?_)
  rotate_left
  · exact ⟨_, rfl, _, rfl, _, _, rfl, rfl, (show (0 : Int) < 6 by decide), sp6.map dR, _, _, .inl rfl, rfl, sp6_at, _, rfl, rfl, _, _, rfl, _, _, rfl, rfl, kk _ rfl⟩
  rintro ρ rfl
  refine mid4 (fun ρ => ∃ v10 : Sl, ρ = [.bag, .val (.int mo), .val (.int fa), .val (.tup (sp6.map dR)), .val (.int sh), .val (.int lf), .own (.l ((sel.map spt).map dR)), .val (.int i), .val (.int (spk i).1), .val (.int (spk i).2), v10, v11, v12]) ?_ (fun N kk => ?_)
  rotate_left
  · refine ⟨_, rfl, _, _, rfl, rfl, by walk_at "sd", ?_⟩
    have e6 : ((i : Int).fdiv 6) = ((i / 6 : Nat) : Int) := by
      rw [Int.fdiv_eq_ediv_of_nonneg _ (by decide)]; omega
    refine ⟨_, rfl, by rw [e6]; omega, by rw [e6]; omega, ?_⟩
    rw [e6, Int.toNat_natCast]
    refine forR_rng (fun t ρ => ∃ v10 : Sl, ρ = [.bag, .val (.int mo), .val (.int fa), .val (.tup (sp6.map dR)), .val (.int sh), .val (.int lf), .own (.l ((sel.map spt).map dR)), .val (.int i), .val (.int (rotN t (sp6.getD (i % 6) (0, 0))).1), .val (.int (rotN t (sp6.getD (i % 6) (0, 0))).2), v10, v11, v12]) ⟨_, rfl⟩ ?_ (fun ρ h => ?_)
    · rintro t ρ ht ⟨v10, rfl⟩ N2 kk2
      exact ⟨_, rfl, _, rfl, _, rfl, _, _, rfl, kk2 _ ⟨_, rfl⟩⟩
    · obtain ⟨v10, rfl⟩ := h
      exact kk _ ⟨_, rfl⟩
  rintro ρ ⟨v10, rfl⟩
  have bnd : -5 ≤ (spk i).1 ∧ (spk i).1 ≤ 5 ∧ -5 ≤ (spk i).2 ∧ (spk i).2 ≤ 5 := rotT_le _ _ h6
  refine mid4 (fun ρ => ∃ lg : Int, 1 ≤ lg ∧ lg ≤ fa ∧ ρ = [.bag, .val (.int mo), .val (.int fa), .val (.tup (sp6.map dR)), .val (.int sh), .val (.int lf), .own (.l ((sel.map spt).map dR)), .val (.int i), .val (.int (spk i).1), .val (.int (spk i).2), v10, .val (.int lg), v12]) ?_ (fun N kk => ?_)
  rotate_left
  · walk_at "w"
    intro lg g0 g1
    exact ⟨_, _, rfl, rfl, kk _ ⟨1 + lg, by omega, by omega, rfl⟩⟩
  rintro ρ ⟨lg, g1, g2, rfl⟩
  refine mid4 (fun ρ => ∃ b : Bool, (b = true → 0 < lf) ∧ ρ = [.bag, .val (.int mo), .val (.int fa), .val (.tup (sp6.map dR)), .val (.int sh), .val (.int lf), .own (.l ((sel.map spt).map dR)), .val (.int i), .val (.int (spk i).1), .val (.int (spk i).2), v10, .val (.int lg), .val (.bl b)]) ?_ (fun N kk => ?_)
  rotate_left
  · refine ⟨_, rfl, _, _, rfl, rfl, _, rfl, iteD (fun g => ?_) (fun g => ?_)⟩
    · walk_at "w"
      intro r r0 r1
      exact ⟨_, rfl, _, _, rfl, rfl, kk _ ⟨_, fun _ => g, rfl⟩⟩
    · exact kk _ ⟨false, (fun z => absurd z (by decide)), rfl⟩
  rintro ρ ⟨b, hb, rfl⟩
  have c1 : CMulB lg (spk i).1 := ⟨by walk_at "bits", by walk_at "bits"⟩
  have c2 : CMulB lg (spk i).2 := ⟨by walk_at "bits", by walk_at "bits"⟩
  have sl : sel.length ≤ 48 := by
    have h1 := ok.cnt
    have h2 := ok.l0
    have h3 : mst sh i ≤ i := by unfold mst; exact Nat.le_trans (List.length_filter_le _ _) (by simp)
    omega
  have len : ((sel.map spt).map dR).length = sel.length := by rw [List.length_map, List.length_map]
  have ap : ((sel.map spt).map dR) ++ [.tup [.int (lg * (spk i).1), .int (lg * (spk i).2)]] = ((sel ++ [(i, lg)]).map spt).map dR := by rw [List.map_append, List.map_append]; rfl
  refine ⟨_, rfl, _, _, rfl, rfl, (show (0 : Int) < 8 by decide), _, rfl, _, _, rfl, rfl, _, rfl, iteD (fun e => ?_) (fun e => ?_)⟩
  · refine ⟨_, rfl, _, rfl, _, rfl, _, _, rfl, rfl, c1, _, rfl, _, rfl, _, _, rfl, rfl, c2, t2, by omega, kk _ ⟨sel ++ [(i, lg)], lf, _, _, _, _, _, _, by rw [← ap]; rfl, ok.put g1 g2 (.inl ⟨e, rfl⟩) ok.l0⟩⟩
  · refine ⟨_, rfl, b, rfl, ?_⟩
    cases b with
    | true =>
      refine iteT3 rfl ?_
      have l0 := hb rfl
      refine ⟨_, rfl, _, rfl, _, rfl, _, _, rfl, rfl, c1, _, rfl, _, rfl, _, _, rfl, rfl, c2, t2, by omega, ?_⟩
      refine ⟨lf, rfl, 1, rfl, kk _ ⟨sel ++ [(i, lg)], lf - 1, _, _, _, _, _, _, by rw [← ap]; rfl, ok.put g1 g2 (.inr ⟨e, rfl⟩) (by omega)⟩⟩
    | false =>
      refine iteF3 rfl ?_
      exact kk _ ⟨sel, lf, _, _, _, _, _, _, rfl, ok.skip e⟩

theorem sc_law_steps : FnScope ["_law_bag_here", "_law_far", "_law_many", "_law_ring", "_law_k", "_law_high"] ["_law_bag_here", "_law_far"] (defScope s_law_steps) := ⟨rfl, rfl, rfl, by decide +kernel, rfl, by decide +kernel, by decide +kernel⟩

def F_stepsC : FS := fun as k => ∃ (fa : Int), as = [.bag, .val (.int fa)] ∧ (1 ≤ fa) ∧ (fa ≤ 1000000) ∧ ∀ ps, Rg2 (11 * fa) ps → k (.val (.lst (ps.map dR)))
theorem ok_stepsC {P : Program} {w : World} {K : PySem.W.Frag} {mg : Str → Option Value} {base : Heap} (B : Blts mg)   (F : Fnd K mg "_law_steps" s_law_steps ["_law_bag_here", "_law_far"]) (c_law_draw : Cal P w K mg base "_law_draw" ["_law_bag_here", "_law_many"] 1 (Con K 2 (F_draw 400))) :
    Cal P w K mg base "_law_steps" ["_law_bag_here", "_law_far"] 2 (Con K 2 F_stepsC) := by
  refine def3 (lv := 1) F sc_law_steps rfl (fun f cdv A outer s H E hr => ⟨_, (s_cons (s_set (i := 2) sc_law_steps.nd rfl (Or.inl rfl) (e_add e_int (e_call c_law_draw hr (by rfl) (a_bag 0 (a_val e_int a_nil))))) (s_cons (s_setO (i := 3) sc_law_steps.nd rfl (Or.inl rfl) (o_lst (l_cons (e_tup (l_cons e_int (l_cons e_int l_nil))) (l_cons (e_tup (l_cons (v3 2) (l_cons e_int l_nil))) l_nil)))) (s_cons (s_for PassesOwn.never rfl (i_rngD (e_sub (v3 2) e_int) (e_neg e_int) (e_neg e_int) (by rfl) B.range_) (g_name (i := 4) sc_law_steps.nd rfl (Or.inl rfl)) (s_cons (s_set (i := 5) sc_law_steps.nd rfl (Or.inl rfl) (e_add e_int (e_call c_law_draw hr (by rfl) (a_bag 0 (a_val (v3 1) a_nil))))) (s_cons (s_if (t_ne (hr.units) (e_ixO 3 (e_neg e_int) (fun _ _ => rfl)) (e_tup (l_cons (e_add (v3 4) e_int) (l_cons (v3 5) l_nil))) (nomark _)) (s_one (s_app 3 (e_tup (l_cons (e_add (v3 4) e_int) (l_cons (v3 5) l_nil))))) s_nil) (s_one (s_app 3 (e_tup (l_cons (v3 4) (l_cons (v3 5) l_nil)))))))) (s_fz 3 (s_one (s_ret (v3 3))))))), ?_⟩)
  rintro as k hl ⟨fa, rfl, f1, f2, hk⟩
  refine at3 (r := [.bag, .val (.int fa), .no, .no, .no, .no]) rfl ?_
  have big : 10000 ≤ sizeLine := by decide
  have t2 : 2 ≤ sizeLine := by decide
  refine mid4 (fun ρ => ∃ n : Int, 1 ≤ n ∧ n ≤ 11 ∧ ρ = [.bag, .val (.int fa), .val (.int n), .no, .no, .no]) ?_ (fun N kk => ?_)
  rotate_left
  · walk_at "w"
    intro n n0 n1
    exact ⟨_, _, rfl, rfl, kk _ ⟨1 + n, by omega, by omega, rfl⟩⟩
  rintro ρ ⟨n, n1, n2, rfl⟩
  refine mid4 (fun ρ => ρ = [.bag, .val (.int fa), .val (.int n), .own (.l (([(0, 0), (n, 0)] : List F2).map dR)), .no, .no]) ?_ (fun N kk => ⟨t2, _, rfl, t2, t2, kk _ rfl⟩)
  rintro ρ rfl
  refine mid4 (fun ρ => ∃ (ps : List F2) (v4 v5 : Sl), ρ = [.bag, .val (.int fa), .val (.int n), .own (.l (ps.map dR)), v4, v5] ∧ StpOk fa n 0 ps) ?_ (fun N kk => ?_)
  · rintro ρ ⟨ps, v4, v5, rfl, ok⟩
    exact ⟨_, rfl, _, rfl, hk ps (stp_rg ok n1 n2 f1)⟩
  refine ⟨_, rfl, _, _, rfl, rfl, _, rfl, _, rfl, _, _, rfl, rfl, rfl, ⟨by omega, by omega, by decide, by decide⟩, ?_⟩
  rw [show (n - 1 - -1).toNat = n.toNat by omega]
  refine forR_dn (n - 1) (fun t ρ => ∃ (ps : List F2) (v4 v5 : Sl), ρ = [.bag, .val (.int fa), .val (.int n), .own (.l (ps.map dR)), v4, v5] ∧ StpOk fa n (n - t) ps) ⟨_, _, _, rfl, by rw [Int.natCast_zero, Int.sub_zero]; exact stp_start n1 f1⟩ ?_ (fun ρ h => ?_)
  rotate_left
  · obtain ⟨ps, v4, v5, rfl, ok⟩ := h
    exact kk _ ⟨ps, v4, v5, rfl, by rw [show (n - (n.toNat : Int)) = 0 by omega] at ok; exact ok⟩
  rintro t ρ ht ⟨ps, v4, v5, rfl, ok⟩ N2 kk2
  obtain ⟨c, ec⟩ : ∃ c : Int, c = n - 1 - t := ⟨_, rfl⟩
  rw [show n - (t : Int) = c + 1 by omega] at ok
  have kk2 : ∀ r, (∃ (ps : List F2) (v4 v5 : Sl), r = [.bag, .val (.int fa), .val (.int n), .own (.l (ps.map dR)), v4, v5] ∧ StpOk fa n c ps) → N2 r := fun r hr => kk2 r (by rw [show n - ((t + 1 : Nat) : Int) = c by omega]; exact hr)
  rw [← ec]
  have c0 : 0 ≤ c := by omega
  have cn : c < n := by omega
  refine mid4 (fun ρ => ∃ h : Int, 1 ≤ h ∧ h ≤ fa ∧ ρ = [.bag, .val (.int fa), .val (.int n), .own (.l (ps.map dR)), .val (.int c), .val (.int h)]) ?_ (fun N kk => ?_)
  rotate_left
  · walk_at "w"
    intro h h0 h1
    exact ⟨_, _, rfl, rfl, kk _ ⟨1 + h, by omega, by omega, rfl⟩⟩
  rintro ρ ⟨h, h1, h2, rfl⟩
  obtain ⟨g, pre, e, eg, al⟩ := ok.last
  have pl := ok.len
  have len : (ps.map dR).length = ps.length := List.length_map ..
  have hb : ∀ b : Bool, (b = true ↔ g = h) → (b = true ↔ ∃ pre, ps = pre ++ [(c + 1, h)]) := fun b hb => by
    rw [hb]
    constructor
    · rintro rfl; exact ⟨pre, e⟩
    · rintro ⟨pre', e'⟩
      have := List.append_inj_right' (e.symm.trans e') rfl
      have := congrArg (fun l => (l.headD (0, 0)).2) this
      exact this
  refine mid4 (fun ρ => ρ = [.bag, .val (.int fa), .val (.int n), .own (.l ((if decide (g = h) = true then ps else ps ++ [(c + 1, h)]).map dR)), .val (.int c), .val (.int h)]) ?_ (fun N kk => ?_)
  · rintro ρ rfl
    refine ⟨_, rfl, _, rfl, _, rfl, t2, ?_, kk2 _ ⟨_, .val (.int c), .val (.int h), by rw [List.map_append]; rfl, stp_next ok c0 cn h1 h2 (hb (decide (g = h)) decide_eq_true_iff)⟩⟩
    rw [List.length_map]
    have l1 : (if decide (g = h) = true then ps else ps ++ [(c + 1, h)]).length ≤ ps.length + 1 := by split <;> simp
    omega
  · refine ⟨_, rfl, _, rfl, -1, dR (c + 1, g), rfl, ?_, ?_⟩
    · rw [e, List.map_append]; exact atI_last _ _
    · refine ⟨_, rfl, _, _, rfl, rfl, _, rfl, t2, .T [.I, .I], rfl, rfl, by decide, _, rfl, ?_⟩
      refine neIf (fun ne => ?_) (fun eq => ?_)
      · have gn : g ≠ h := fun z => ne (by rw [z]; rfl)
        refine ⟨_, rfl, _, rfl, _, _, rfl, rfl, _, rfl, t2, by rw [len]; omega, kk _ ?_⟩
        rw [if_neg (by simpa using gn), List.map_append]; rfl
      · have gh : g = h := by
          have : dR (c + 1, g) = dR (c + 1, h) := eq
          unfold dR at this
          simp at this
          exact this
        exact kk _ (by rw [if_pos (by simpa using gh)])

theorem sc_law_rings : FnScope ["_law_bag_here", "_law_far", "_law_way", "_law_rings_here", "_law_room", "_law_star_here", "_law_many", "_law_deep", "_law_ring"] ["_law_bag_here", "_law_far"] (defScope s_law_rings) := ⟨rfl, rfl, rfl, by decide +kernel, rfl, by decide +kernel, by decide +kernel⟩

def F_ringsC : FS := fun as k => ∃ (fa : Int), as = [.bag, .val (.int fa)] ∧ (1 ≤ fa) ∧ (fa ≤ 1000000) ∧ ∀ rs, RgsOk (400 * fa) rs → k (.val (.lst (rs.map dF2)))
theorem ok_ringsC {P : Program} {w : World} {K : PySem.W.Frag} {mg : Str → Option Value} {base : Heap} (B : Blts mg)   (F : Fnd K mg "_law_rings" s_law_rings ["_law_bag_here", "_law_far"]) (c_law_draw : Cal P w K mg base "_law_draw" ["_law_bag_here", "_law_many"] 1 (Con K 2 (F_draw 400))) (c_law_star : Cal P w K mg base "_law_star" ["_law_bag_here", "_law_most", "_law_far"] 2 (Con K 3 F_starC)) (c_law_steps : Cal P w K mg base "_law_steps" ["_law_bag_here", "_law_far"] 2 (Con K 2 F_stepsC)) :
    Cal P w K mg base "_law_rings" ["_law_bag_here", "_law_far"] 3 (Con K 2 F_ringsC) := by
  refine def3 (lv := 2) F sc_law_rings rfl (fun f cdv A outer s H E hr => ⟨_, (s_cons (s_set (i := 2) sc_law_rings.nd rfl (Or.inl rfl) (e_call c_law_draw hr (by rfl) (a_bag 0 (a_val e_int a_nil)))) (s_cons (s_if (t_cmp (f := fun i j => decide (i < j)) op_lt (v3 2) e_int (nomark _)) (s_one (s_ret (o_e (o_lst (l_cons (e_call c_law_star hr (by rfl) (a_bag 0 (a_val (e_add e_int (e_call c_law_draw hr (by rfl) (a_bag 0 (a_val e_int a_nil)))) (a_val (v3 1) a_nil)))) l_nil))))) s_nil) (s_cons (s_if (t_cmp (f := fun i j => decide (i = j)) op_eqI (v3 2) e_int (nomark _)) (s_one (s_ret (o_e (o_lst (l_cons (e_call c_law_steps hr (by rfl) (a_bag 0 (a_val (v3 1) a_nil))) l_nil))))) s_nil) (s_cons (s_if (t_cmp (f := fun i j => decide (i = j)) op_eqI (v3 2) e_int (nomark _)) (s_one (s_ret (o_e (o_lst l_nil)))) s_nil) (s_cons (s_setO (i := 3) sc_law_rings.nd rfl (Or.inl rfl) (o_lst l_nil)) (s_cons (s_set (i := 4) sc_law_rings.nd rfl (Or.inl rfl) e_int) (s_cons (s_set (i := 5) sc_law_rings.nd rfl (Or.inl rfl) (e_call c_law_star hr (by rfl) (a_bag 0 (a_val (e_add e_int (e_call c_law_draw hr (by rfl) (a_bag 0 (a_val e_int a_nil)))) (a_val (v3 1) a_nil))))) (s_cons (s_set (i := 6) sc_law_rings.nd rfl (Or.inl rfl) (e_add e_int (e_call c_law_draw hr (by rfl) (a_bag 0 (a_val e_int a_nil))))) (s_cons (s_while PassesOwn.never (w_t (w_and (t_cmp (f := fun i j => decide (i < j)) op_lt (e_lenO 3 (by rfl) B.len_) (v3 6) (nomark _)) (w_and1 (t_cmp (f := fun i j => decide (i ≤ j)) op_le (e_len (v3 5) (by rfl) B.len_) (v3 4) (nomark _))))) (s_cons (s_set (i := 7) sc_law_rings.nd rfl (Or.inr rfl) (e_sub (v3 6) (e_lenO 3 (by rfl) B.len_))) (s_cons (s_if (t_cmp (f := fun i j => decide (i < j)) op_lt (v3 2) e_int (nomark _)) (s_cons (s_thenFz 8 (s_compA (i := 8) sc_law_rings.nd rfl rfl (ts := ["_law_x", "_law_y"]) (fr := ["_law_deep"]) (js := [7]) (i_list (v3 5)) (fun _ _ _ _ => (g_tup (n := 2) rfl (gs_cons (g_name (i := 0) (show List.Nodup (["_law_x", "_law_y", "_law_deep"] : List Str) by decide +kernel) rfl (Or.inl rfl)) (gs_cons (g_name (i := 1) (show List.Nodup (["_law_x", "_law_y", "_law_deep"] : List Str) by decide +kernel) rfl (Or.inl rfl)) gs_nil)))) (fun _ _ _ _ => ifs_nil) (fun _ _ _ _ => (e_tup (l_cons (e_mul (v3 0) (v3 2)) (l_cons (e_mul (v3 1) (v3 2)) l_nil)))) ⟨rfl, by decide +kernel, rfl, by decide +kernel, fsub_of (List.forall_mem_cons.mpr ⟨rfl, (List.forall_mem_nil _)⟩), fhas_b rfl, by walk_at "ffr", rfl⟩)) (s_one (s_if (t_cmp (f := fun i j => decide (i = j)) op_eqI (e_mod (e_lenO 3 (by rfl) B.len_) e_int) e_int (nomark _)) (s_one (s_set (i := 8) sc_law_rings.nd rfl (Or.inl rfl) (o_e (o_rev (v3 8) (e_neg e_int))))) s_nil))) (s_cons (s_thenFz 8 (s_compA (i := 8) sc_law_rings.nd rfl rfl (ts := ["_law_x", "_law_y"]) (fr := ["_law_far", "_law_deep"]) (js := [1, 7]) (i_list (v3 5)) (fun _ _ _ _ => (g_tup (n := 2) rfl (gs_cons (g_name (i := 0) (show List.Nodup (["_law_x", "_law_y", "_law_far", "_law_deep"] : List Str) by decide +kernel) rfl (Or.inl rfl)) (gs_cons (g_name (i := 1) (show List.Nodup (["_law_x", "_law_y", "_law_far", "_law_deep"] : List Str) by decide +kernel) rfl (Or.inl rfl)) gs_nil)))) (fun _ _ _ _ => ifs_nil) (fun _ _ _ _ => (e_tup (l_cons (e_add (v3 0) (e_mul (e_mul e_int (v3 2)) (v3 3))) (l_cons (v3 1) l_nil)))) ⟨rfl, by decide +kernel, rfl, by decide +kernel, fsub_of (List.forall_mem_cons.mpr ⟨rfl, (List.forall_mem_cons.mpr ⟨rfl, (List.forall_mem_nil _)⟩)⟩), fhas_b rfl, by walk_at "ffr", rfl⟩)) (s_one (s_set (i := 5) sc_law_rings.nd rfl (Or.inl rfl) (e_call c_law_star hr (by rfl) (a_bag 0 (a_val (e_add e_int (e_call c_law_draw hr (by rfl) (a_bag 0 (a_val e_int a_nil)))) (a_val (v3 1) a_nil)))))))) (s_cons (s_app 3 (v3 8)) (s_one (s_set (i := 4) sc_law_rings.nd rfl (Or.inl rfl) (e_sub (v3 4) (e_len (v3 8) (by rfl) B.len_)))))))) (s_fz 3 (s_one (s_ret (v3 3))))))))))))), ?_⟩)
  rintro as k hl ⟨fa, rfl, f1, f2, hk⟩
  refine at3 (r := [.bag, .val (.int fa), .no, .no, .no, .no, .no, .no, .no]) rfl ?_
  have big : 10000 ≤ sizeLine := by decide
  have t2 : 2 ≤ sizeLine := by decide
  have t1 : 1 ≤ sizeLine := by decide
  have b1 : intBits fa ≤ 64 := bits_om (by omega) (by omega)
  refine mid4 (fun ρ => ∃ w : Int, 0 ≤ w ∧ w < 8 ∧ ρ = [.bag, .val (.int fa), .val (.int w), .no, .no, .no, .no, .no, .no]) ?_ (fun N kk => ?_)
  rotate_left
  · walk_at "w"
    intro w w0 w1
    exact kk _ ⟨w, w0, w1, rfl⟩
  rintro ρ ⟨w, w0, w1, rfl⟩
  refine pass4 (fun N hN => ?_) ?_
  · refine ⟨_, rfl, _, _, rfl, rfl, _, rfl, iteD (fun g => ?_) (fun g => hN)⟩
    walk_at "w"
    intro m m0 m1
    refine ⟨_, _, rfl, rfl, ?_⟩
    walk_at "w"
    refine ⟨3 + m, fa, rfl, by omega, by omega, f1, f2, fun sel ok => ?_⟩
    refine ⟨t1, ?_⟩
    exact hk [sel.map spt] (rgs_one (star_rg ok (by omega) f1) (by omega))
  refine pass4 (fun N hN => ?_) ?_
  · refine ⟨_, rfl, _, _, rfl, rfl, _, rfl, iteD (fun g => ?_) (fun g => hN)⟩
    walk_at "w"
    exact fun ps ok => ⟨t1, hk [ps] (rgs_one ok (by omega))⟩
  refine pass4 (fun N hN => ?_) ?_
  · refine ⟨_, rfl, _, _, rfl, rfl, _, rfl, iteD (fun g => ?_) (fun g => hN)⟩
    exact ⟨Nat.zero_le _, hk [] rgs_nil⟩
  refine mid4 (fun ρ => ρ = [.bag, .val (.int fa), .val (.int w), .own (.l (([] : List (List F2)).map dF2)), .no, .no, .no, .no, .no]) ?_ (fun N kk => ⟨Nat.zero_le _, kk _ rfl⟩)
  rintro ρ rfl
  refine mid4 (fun ρ => ρ = [.bag, .val (.int fa), .val (.int w), .own (.l (([] : List (List F2)).map dF2)), .val (.int 24), .no, .no, .no, .no]) ?_ (fun N kk => kk _ rfl)
  rintro ρ rfl
  refine mid4 (fun ρ => ∃ st : List F2, Rg2 (5 * fa) st ∧ ρ = [.bag, .val (.int fa), .val (.int w), .own (.l (([] : List (List F2)).map dF2)), .val (.int 24), .val (dF2 st), .no, .no, .no]) ?_ (fun N kk => ?_)
  rotate_left
  · walk_at "w"
    intro m m0 m1
    refine ⟨_, _, rfl, rfl, ?_⟩
    walk_at "w"
    exact ⟨3 + m, fa, rfl, by omega, by omega, f1, f2, fun sel ok => kk _ ⟨sel.map spt, star_rg ok (by omega) f1, rfl⟩⟩
  rintro ρ ⟨st0, rs0, rfl⟩
  refine mid4 (fun ρ => ∃ mn : Int, 1 ≤ mn ∧ mn ≤ 8 ∧ ρ = [.bag, .val (.int fa), .val (.int w), .own (.l (([] : List (List F2)).map dF2)), .val (.int 24), .val (dF2 st0), .val (.int mn), .no, .no]) ?_ (fun N kk => ?_)
  rotate_left
  · walk_at "w"
    intro m m0 m1
    exact ⟨_, _, rfl, rfl, kk _ ⟨1 + m, by omega, by omega, rfl⟩⟩
  rintro ρ ⟨mn, n1, n8, rfl⟩
  refine mid4 (fun ρ => ∃ (rs : List (List F2)) (v4 v5 v7 v8 : Sl), RgsOk (400 * fa) rs ∧ ρ = [.bag, .val (.int fa), .val (.int w), .own (.l (rs.map dF2)), v4, v5, .val (.int mn), v7, v8]) ?_ (fun N kk => ?_)
  · rintro ρ ⟨rs, v4, v5, v7, v8, ok, rfl⟩
    exact ⟨_, rfl, _, rfl, hk rs ok⟩
  refine ⟨fun m ρ => ∃ (rs : List (List F2)) (st : List F2) (v7 v8 : Sl), m = 8 - rs.length ∧ RgsOk (400 * fa) rs ∧ Rg2 (5 * fa) st ∧ ρ = [.bag, .val (.int fa), .val (.int w), .own (.l (rs.map dF2)), .val (.int (24 - ((rs.map List.length).sum : Nat))), .val (dF2 st), .val (.int mn), v7, v8], ⟨8, [], st0, _, _, rfl, rgs_nil, rs0, rfl⟩, ?_⟩
  rintro m ρ ⟨rs, st, v7, v8, rfl, ok, os, rfl⟩
  have len : (rs.map dF2).length = rs.length := List.length_map ..
  have lst : (st.map dR).length = st.length := List.length_map ..
  have done : N [.bag, .val (.int fa), .val (.int w), .own (.l (rs.map dF2)), .val (.int (24 - ((rs.map List.length).sum : Nat))), .val (dF2 st), .val (.int mn), v7, v8] := kk _ ⟨rs, _, _, _, _, ok, rfl⟩
  refine ⟨_, rfl, _, rfl, _, _, rfl, rfl, _, rfl, iteD (fun g => ?_) (fun g => iteF3 rfl done)⟩
  rw [len] at g
  refine ⟨_, rfl, _, rfl, _, rfl, _, _, rfl, rfl, _, rfl, iteD (fun g2 => ?_) (fun g2 => done)⟩
  rw [lst] at g2
  obtain ⟨dp, ed⟩ : ∃ dp : Int, dp = mn - (rs.length : Nat) := ⟨_, rfl⟩
  refine mid4 (fun ρ => ρ = [.bag, .val (.int fa), .val (.int w), .own (.l (rs.map dF2)), .val (.int (24 - ((rs.map List.length).sum : Nat))), .val (dF2 st), .val (.int mn), .val (.int dp), v8]) ?_ (fun N kk => ⟨_, rfl, _, rfl, _, _, rfl, rfl, kk _ (by rw [ed, len]; rfl)⟩)
  rintro ρ rfl
  have d1 : 1 ≤ dp := by omega
  have d8 : dp ≤ 8 := by omega
  have sl := os.l24
  have bs : ∀ p ∈ st, intBits p.1 ≤ 64 ∧ intBits p.2 ≤ 64 := fun p hp => by
    obtain ⟨a, b, c, d⟩ := os.le p hp
    exact ⟨bits_om (by omega) (by omega), bits_om (by omega) (by omega)⟩
  have bd : intBits dp ≤ 64 := bits_om (by omega) (by omega)
  refine mid4 (fun ρ => ∃ r st' : List F2, Rg2 (400 * fa) r ∧ r.length = st.length ∧ Rg2 (5 * fa) st' ∧ ρ = [.bag, .val (.int fa), .val (.int w), .own (.l (rs.map dF2)), .val (.int (24 - ((rs.map List.length).sum : Nat))), .val (dF2 st'), .val (.int mn), .val (.int dp), .val (dF2 r)]) ?_ (fun N kk => ?_)
  · rintro ρ ⟨r, st', hr, er, os', rfl⟩
    have lr : (r.map dR).length = r.length := List.length_map ..
    refine ⟨_, rfl, _, rfl, by rw [len]; omega, ?_⟩
    refine ⟨_, rfl, _, rfl, _, rfl, _, _, rfl, rfl, 8 - (rs.length + 1), by omega, rs ++ [r], st', .val (.int dp), .val (dF2 r), by simp, ok.put hr (by omega) (by omega), os', ?_⟩
    have e1 : 24 - (((rs.map List.length).sum : Nat) : Int) - ((r.map dR).length : Nat) = 24 - ((((rs ++ [r]).map List.length).sum : Nat) : Int) := by rw [lr, List.map_append, List.sum_append]; simp; omega
    rw [← e1, List.map_append]; rfl
  · refine ⟨_, rfl, _, _, rfl, rfl, _, rfl, iteD (fun g3 => ?_) (fun g3 => ?_)⟩
    · have eq : st.map (fun p => dR (p.1 * dp, p.2 * dp)) = (st.map fun p => (p.1 * dp, p.2 * dp)).map dR := by rw [List.map_map]; rfl
      have hr := rg_times (m := 400 * fa) os d1 d8 f1 (by omega)
      refine ⟨_, rfl, _, rfl, by rw [lst]; omega, ?_⟩
      refine compG_dR (h := fun p => dR (p.1 * dp, p.2 * dp)) (fun r hr k hk => ?_) ?_
      · obtain ⟨x1, x2⟩ := bs r hr
        exact ⟨_, rfl, _, rfl, _, _, rfl, rfl, ⟨by walk_at "bits", by walk_at "bits"⟩, _, rfl, _, rfl, _, _, rfl, rfl, ⟨by walk_at "bits", by walk_at "bits"⟩, t2, hk⟩
      · refine ⟨_, rfl, ?_⟩
        rw [eq]
        refine ⟨_, rfl, _, _, rfl, rfl, (show (0 : Int) < 2 by decide), _, _, rfl, rfl, _, rfl, iteD (fun g4 => ?_) (fun g4 => ?_)⟩
        · walk_at "w"
          rw [← List.map_reverse]
          exact kk _ ⟨_, st, hr.rev, by rw [List.length_reverse, List.length_map], os, rfl⟩
        · exact kk _ ⟨_, st, hr, by rw [List.length_map], os, rfl⟩
    · have eq : st.map (fun p => dR (p.1 + 40 * fa * dp, p.2)) = (st.map fun p => (p.1 + 40 * fa * dp, p.2)).map dR := by rw [List.map_map]; rfl
      have hr := rg_slid (m := 400 * fa) os d1 d8 f1 (by omega)
      refine ⟨_, rfl, _, rfl, by rw [lst]; omega, ?_⟩
      refine compG_dR (h := fun p => dR (p.1 + 40 * fa * dp, p.2)) (fun r hr k hk => ?_) ?_
      · exact ⟨_, rfl, _, rfl, _, _, rfl, rfl, ⟨by walk_at "bits", by walk_at "bits"⟩, _, rfl, _, _, rfl, rfl, ⟨by walk_at "bits", by walk_at "bits"⟩, _, _, rfl, rfl, _, rfl, t2, hk⟩
      · refine ⟨_, rfl, ?_⟩
        rw [eq]
        walk_at "w"
        intro m m0 m1
        refine ⟨_, _, rfl, rfl, ?_⟩
        walk_at "w"
        exact ⟨3 + m, fa, rfl, by omega, by omega, f1, f2, fun sel ok' => kk _ ⟨_, sel.map spt, hr, by rw [List.length_map], star_rg ok' (by omega) f1, rfl⟩⟩

theorem sc_law_cloth : FnScope ["_law_bag_here", "_law_bottom", "_law_far", "_law_rings_here", "_law_ring", "_law_turn"] ["_law_bag_here"] (defScope s_law_cloth) := ⟨rfl, rfl, rfl, by decide +kernel, rfl, by decide +kernel, by decide +kernel⟩

def F_clothD : FS := fun as k =>  as = [.bag] ∧ ∀ rs n, RgsOk 400000000 rs → 1 ≤ n → n ≤ 1000000 → k (.val (.tup [.lst (rs.map dF2), .int n]))
theorem ok_clothD {P : Program} {w : World} {K : PySem.W.Frag} {mg : Str → Option Value} {base : Heap} (B : Blts mg)   (F : Fnd K mg "_law_cloth" s_law_cloth ["_law_bag_here"]) (c_law_draw : Cal P w K mg base "_law_draw" ["_law_bag_here", "_law_many"] 1 (Con K 2 (F_draw 400))) (c_law_rings : Cal P w K mg base "_law_rings" ["_law_bag_here", "_law_far"] 3 (Con K 2 F_ringsC)) :
    Cal P w K mg base "_law_cloth" ["_law_bag_here"] 4 (Con K 1 F_clothD) := by
  refine def3 (lv := 3) F sc_law_cloth rfl (fun f cdv A outer s H E hr => ⟨_, (s_cons (s_set (i := 1) sc_law_cloth.nd rfl (Or.inl rfl) (e_add e_int (e_call c_law_draw hr (by rfl) (a_bag 0 (a_val e_int a_nil))))) (s_cons (s_set (i := 2) sc_law_cloth.nd rfl (Or.inl rfl) e_int) (s_cons (s_if (t_cmp (f := fun i j => decide (i = j)) op_eqI (e_call c_law_draw hr (by rfl) (a_bag 0 (a_val e_int a_nil))) e_int (nomark _)) (s_cons (s_set (i := 1) sc_law_cloth.nd rfl (Or.inl rfl) (e_add e_int (e_call c_law_draw hr (by rfl) (a_bag 0 (a_val (e_pow e_int e_int) a_nil))))) (s_one (s_set (i := 2) sc_law_cloth.nd rfl (Or.inl rfl) (e_pow e_int e_int)))) s_nil) (s_cons (s_setO (i := 3) sc_law_cloth.nd rfl (Or.inl rfl) (o_lst l_nil)) (s_cons (s_for PassesOwn.never rfl (i_list (e_call c_law_rings hr (by rfl) (a_bag 0 (a_val (v3 2) a_nil)))) (g_name (i := 4) sc_law_cloth.nd rfl (Or.inl rfl)) (s_cons (s_set (i := 5) sc_law_cloth.nd rfl (Or.inl rfl) (e_call c_law_draw hr (by rfl) (a_bag 0 (a_val (e_len (v3 4) (by rfl) B.len_) a_nil)))) (s_one (s_app 3 (o_e (o_cat (o_e (o_slice (v3 4) (p_some (v3 5)) p_none)) (o_e (o_slice (v3 4) p_none (p_some (v3 5)))))))))) (s_fz 3 (s_one (s_ret (e_tup (l_cons (v3 3) (l_cons (v3 1) l_nil))))))))))), ?_⟩)
  rintro as k hl ⟨rfl, hk⟩
  refine at3 (r := [.bag, .no, .no, .no, .no, .no]) rfl ?_
  have big : 10000 ≤ sizeLine := by decide
  have t2 : 2 ≤ sizeLine := by decide
  refine mid4 (fun ρ => ∃ n : Int, 1 ≤ n ∧ n ≤ 1000000 ∧ ρ = [.bag, .val (.int n), .no, .no, .no, .no]) ?_ (fun N kk => ?_)
  rotate_left
  · walk_at "w"
    intro n n0 n1
    exact ⟨_, _, rfl, rfl, kk _ ⟨1 + n, by omega, by omega, rfl⟩⟩
  rintro ρ ⟨n0, n1, n2, rfl⟩
  refine mid4 (fun ρ => ρ = [.bag, .val (.int n0), .val (.int 6), .no, .no, .no]) ?_ (fun N kk => kk _ rfl)
  rintro ρ rfl
  refine mid4 (fun ρ => ∃ n fa : Int, 1 ≤ n ∧ n ≤ 1000000 ∧ 1 ≤ fa ∧ fa ≤ 1000000 ∧ ρ = [.bag, .val (.int n), .val (.int fa), .no, .no, .no]) ?_ (fun N kk => ?_)
  rotate_left
  · walk_at "w"
    intro g g0 g1
    refine ⟨_, _, rfl, rfl, _, rfl, iteD (fun g2 => ?_) (fun g2 => kk _ ⟨n0, 6, n1, n2, by decide, by decide, rfl⟩)⟩
    walk_at "w"
    intro m m0 m1
    refine ⟨_, _, rfl, rfl, ?_⟩
    have m2 : m < 1000000 := m1
    walk_at "w"
    exact kk _ ⟨1 + m, 1000000, by omega, by omega, by decide, by decide, rfl⟩
  rintro ρ ⟨n, fa, h1, h2, f1, f2, rfl⟩
  refine mid4 (fun ρ => ρ = [.bag, .val (.int n), .val (.int fa), .own (.l (([] : RR).map dF2)), .no, .no]) ?_ (fun N kk => ⟨Nat.zero_le _, kk _ rfl⟩)
  rintro ρ rfl
  refine mid4 (fun ρ => ∃ (qs : RR) (v4 v5 : Sl), RgsOk 400000000 qs ∧ ρ = [.bag, .val (.int n), .val (.int fa), .own (.l (qs.map dF2)), v4, v5]) ?_ (fun N kk => ?_)
  · rintro ρ ⟨qs, v4, v5, ok, rfl⟩
    exact ⟨_, rfl, _, rfl, _, rfl, t2, hk qs n ok h1 h2⟩
  walk_at "w"
  intro rs ok
  have ok := ok.mono (m' := 400000000) (by omega)
  refine ⟨_, rfl, ?_⟩
  refine forR_map (f := dF2) (rs := rs) (done := []) (fun pre ρ => ∃ (qs : RR) (v4 v5 : Sl), ρ = [.bag, .val (.int n), .val (.int fa), .own (.l (qs.map dF2)), v4, v5] ∧ qs.map List.length = pre.map List.length ∧ ∀ q ∈ qs, Rg2 400000000 q) ⟨[], _, _, rfl, rfl, fun q hq => by simp at hq⟩ ?_ (fun ρ h => ?_)
  rotate_left
  · obtain ⟨qs, v4, v5, rfl, e, hq⟩ := h
    exact kk _ ⟨qs, v4, v5, rgs_of ok hq (by rw [e]; rfl), rfl⟩
  rintro pre r rest ρ he ⟨qs, v4, v5, rfl, e, hq⟩ N2 kk2
  have mem : r ∈ rs := by rw [List.nil_append] at he; rw [he]; simp
  have rg := ok.rg r mem
  have l3 := rg.l3
  have l24 := rg.l24
  have len : (r.map dR).length = r.length := List.length_map ..
  have lq : qs.length ≤ 8 := by
    have q1 := congrArg List.length e
    have q2 := congrArg List.length he
    have q3 := ok.l8
    simp at q1 q2
    omega
  refine mid4 (fun ρ => ∃ t : Nat, t ≤ r.length ∧ ρ = [.bag, .val (.int n), .val (.int fa), .own (.l (qs.map dF2)), .val (dF2 r), .val (.int t)]) ?_ (fun N kk => ?_)
  rotate_left
  · walk_at "w"
    intro t t0 t1
    rw [len] at t1
    obtain ⟨u, rfl⟩ : ∃ u : Nat, t = u := ⟨t.toNat, by omega⟩
    exact kk _ ⟨u, by omega, rfl⟩
  rintro ρ ⟨t, ht, rfl⟩
  have c1 : cutL (r.map dR) (some (t : Int)) none = (r.drop t).map dR := by rw [cutL_drop (by omega) (by rw [len]; omega), Int.toNat_natCast, List.map_drop]
  have c2 : cutL (r.map dR) none (some (t : Int)) = (r.take t).map dR := by rw [cutL_take (by omega) (by rw [len]; omega), Int.toNat_natCast, List.map_take]
  refine ⟨_, rfl, _, rfl, _, rfl, _, rfl, _, rfl, _, rfl, _, rfl, _, rfl, _, rfl, _, _, rfl, rfl, ?_⟩
  rw [c1, c2]
  refine ⟨by rw [List.length_map, List.length_map, List.length_drop, List.length_take]; omega, by rw [List.length_map]; omega, kk2 _ ⟨qs ++ [r.drop t ++ r.take t], .val (dF2 r), .val (.int t), ?_, ?_, fun q hq' => ?_⟩⟩
  · rw [List.map_append, ← List.map_append]; rfl
  · rw [List.map_append, e, List.map_append]
    simp
    omega
  · rcases List.mem_append.mp hq' with z | z
    · exact hq q z
    · rw [List.mem_singleton.mp z]; exact rg.rot t

theorem sc_law_told : FnScope ["_law_cloth_here", "_law_rings_here", "_law_bottom"] ["_law_cloth_here"] (defScope s_law_told) := ⟨rfl, rfl, rfl, by decide +kernel, rfl, by decide +kernel, by decide +kernel⟩

def F_toldE : FS := fun as k => ∃ (rs : RR) (n : Int), as = [.val (.tup [.lst (rs.map dF2), .int n])] ∧ (RgsW 20000000000 rs) ∧ (1 ≤ n) ∧ (n ≤ 12000000) ∧ k (.val (.lst (rs.map fun r => .lst (r.map fun p => dP (npt p.1 p.2 n)))))
theorem ok_toldE {P : Program} {w : World} {K : PySem.W.Frag} {mg : Str → Option Value} {base : Heap} (B : Blts mg)   (F : Fnd K mg "_law_told" s_law_told ["_law_cloth_here"]) (c_law_spot : Cal P w K mg base "_law_spot" ["_law_x", "_law_y", "_law_bottom"] 3 (Con K 3 F_spotB)) :
    Cal P w K mg base "_law_told" ["_law_cloth_here"] 4 (Con K 1 F_toldE) := by
  refine def3 (lv := 3) F sc_law_told rfl (fun f cdv A outer s H E hr => ⟨_, (s_cons (s_asg (v3 0) (g_tup (n := 2) rfl (gs_cons (g_name (i := 1) sc_law_told.nd rfl (Or.inl rfl)) (gs_cons (g_name (i := 2) sc_law_told.nd rfl (Or.inr rfl)) gs_nil)))) (s_one (s_ret (o_e (o_compG (ts := ["_law_ring"]) (fr := ["_law_bottom"]) (js := [2]) (i_list (v3 1)) (fun _ _ _ _ => (g_name (i := 0) (show List.Nodup (["_law_ring", "_law_bottom"] : List Str) by decide +kernel) rfl (Or.inl rfl))) (fun _ _ _ _ => ifs_nil) (fun _ _ _ _ => (o_e (o_compG (ts := ["_law_x", "_law_y"]) (fr := ["_law_bottom"]) (js := [1]) (i_list (v3 0)) (fun _ _ _ _ => (g_tup (n := 2) rfl (gs_cons (g_name (i := 0) (show List.Nodup (["_law_x", "_law_y", "_law_bottom"] : List Str) by decide +kernel) rfl (Or.inl rfl)) (gs_cons (g_name (i := 1) (show List.Nodup (["_law_x", "_law_y", "_law_bottom"] : List Str) by decide +kernel) rfl (Or.inl rfl)) gs_nil)))) (fun _ _ _ _ => ifs_nil) (fun _ _ _ _ => (e_call c_law_spot hr (by rfl) (a_val (v3 0) (a_val (v3 1) (a_val (v3 2) a_nil))))) ⟨rfl, by decide +kernel, rfl, by decide +kernel, fsub_of (List.forall_mem_cons.mpr ⟨rfl, (List.forall_mem_nil _)⟩), fhas_b rfl, by walk_at "ffr", rfl⟩))) ⟨rfl, by decide +kernel, rfl, by decide +kernel, fsub_of (List.forall_mem_cons.mpr ⟨rfl, (List.forall_mem_nil _)⟩), fhas_b rfl, by walk_at "ffr", rfl⟩))))), ?_⟩)
  rintro as k hl ⟨rs, n, rfl, ok, n1, n2, hk⟩
  refine at3 (r := [.val (.tup [.lst (rs.map dF2), .int n]), .no, .no]) rfl ?_
  have big : 10000 ≤ sizeLine := by decide
  refine ⟨_, rfl, _, rfl, rfl, _, _, rfl, _, _, rfl, rfl, ?_⟩
  have l8 := ok.l8
  refine ⟨_, rfl, _, rfl, by rw [List.length_map]; omega, ?_⟩
  refine compG_map (f := dF2) (rs := rs) (h := fun r => .lst (r.map fun p => dP (npt p.1 p.2 n))) (fun r hr k hk => ?_) ?_
  · have rg := ok.rg r hr
    have l24 := rg.l24
    refine ⟨_, rfl, _, rfl, by rw [List.length_map]; omega, ?_⟩
    refine compG_dR (h := fun p => dP (npt p.1 p.2 n)) (fun p hp k hk => ?_) hk
    exact ⟨_, rfl, _, rfl, _, rfl, rfl, p.1, p.2, n, rfl, by omega, by walk_at "bits", hk⟩
  · exact hk

theorem sc_law_moved : FnScope ["_law_cloth_here", "_law_often", "_law_x", "_law_y", "_law_rings_here", "_law_bottom"] ["_law_cloth_here", "_law_often", "_law_x", "_law_y"] (defScope s_law_moved) := ⟨rfl, rfl, rfl, by decide +kernel, rfl, by decide +kernel, by decide +kernel⟩

def F_movedE : FS := fun as k => ∃ (rs : RR) (n o x y : Int), as = [.val (.tup [.lst (rs.map dF2), .int n]), .val (.int o), .val (.int x), .val (.int y)] ∧ (RgsOk 400000000 rs) ∧ (1 ≤ n) ∧ (n ≤ 1000000) ∧ (o = 1 ∨ o = -1) ∧ (-1000000000 ≤ x ∧ x ≤ 1000000000) ∧ (-1000000000 ≤ y ∧ y ≤ 1000000000) ∧ k (.val (.tup [.lst ((rs.map fun r => r.map (mv2 o x y)).map dF2), .int n]))
theorem ok_movedE {P : Program} {w : World} {K : PySem.W.Frag} {mg : Str → Option Value} {base : Heap} (B : Blts mg)   (F : Fnd K mg "_law_moved" s_law_moved ["_law_cloth_here", "_law_often", "_law_x", "_law_y"])  :
    Cal P w K mg base "_law_moved" ["_law_cloth_here", "_law_often", "_law_x", "_law_y"] 2 (Con K 4 F_movedE) := by
  refine def3 (lv := 1) F sc_law_moved rfl (fun f cdv A outer s H E hr => ⟨_, (s_cons (s_asg (v3 0) (g_tup (n := 2) rfl (gs_cons (g_name (i := 4) sc_law_moved.nd rfl (Or.inl rfl)) (gs_cons (g_name (i := 5) sc_law_moved.nd rfl (Or.inl rfl)) gs_nil)))) (s_one (s_ret (e_tup (l_cons (o_e (o_compG (ts := ["_law_ring"]) (fr := ["_law_often", "_law_x", "_law_y"]) (js := [1, 2, 3]) (i_list (v3 4)) (fun _ _ _ _ => (g_name (i := 0) (show List.Nodup (["_law_ring", "_law_often", "_law_x", "_law_y"] : List Str) by decide +kernel) rfl (Or.inl rfl))) (fun _ _ _ _ => ifs_nil) (fun _ _ _ _ => (o_e (o_compG (ts := ["_law_one", "_law_other"]) (fr := ["_law_often", "_law_x", "_law_y"]) (js := [1, 2, 3]) (i_list (v3 0)) (fun _ _ _ _ => (g_tup (n := 2) rfl (gs_cons (g_name (i := 0) (show List.Nodup (["_law_one", "_law_other", "_law_often", "_law_x", "_law_y"] : List Str) by decide +kernel) rfl (Or.inl rfl)) (gs_cons (g_name (i := 1) (show List.Nodup (["_law_one", "_law_other", "_law_often", "_law_x", "_law_y"] : List Str) by decide +kernel) rfl (Or.inl rfl)) gs_nil)))) (fun _ _ _ _ => ifs_nil) (fun _ _ _ _ => (e_tup (l_cons (e_add (e_mul (v3 2) (v3 0)) (v3 3)) (l_cons (e_add (e_mul (v3 2) (v3 1)) (v3 4)) l_nil)))) ⟨rfl, by decide +kernel, rfl, by decide +kernel, fsub_of (List.forall_mem_cons.mpr ⟨rfl, (List.forall_mem_cons.mpr ⟨rfl, (List.forall_mem_cons.mpr ⟨rfl, (List.forall_mem_nil _)⟩)⟩)⟩), fhas_b rfl, by walk_at "ffr", rfl⟩))) ⟨rfl, by decide +kernel, rfl, by decide +kernel, fsub_of (List.forall_mem_cons.mpr ⟨rfl, (List.forall_mem_cons.mpr ⟨rfl, (List.forall_mem_cons.mpr ⟨rfl, (List.forall_mem_nil _)⟩)⟩)⟩), fhas_b rfl, by walk_at "ffr", rfl⟩)) (l_cons (v3 5) l_nil)))))), ?_⟩)
  rintro as k hl ⟨rs, n, o, x, y, rfl, ok, n1, n2, ho, hx, hy, hk⟩
  refine at3 (r := [.val (.tup [.lst (rs.map dF2), .int n]), .val (.int o), .val (.int x), .val (.int y), .no, .no]) rfl ?_
  have big : 10000 ≤ sizeLine := by decide
  have t2 : 2 ≤ sizeLine := by decide
  have l8 := ok.l8
  have bo : intBits o ≤ 9000 := Nat.le_trans (bits_om (by omega) (by omega)) (by decide)
  refine ⟨_, rfl, _, rfl, rfl, _, _, rfl, _, _, rfl, rfl, ?_⟩
  refine ⟨_, rfl, _, rfl, by rw [List.length_map]; omega, ?_⟩
  refine compG_map (f := dF2) (rs := rs) (h := fun r => dF2 (r.map (mv2 o x y))) (fun r hr k hk => ?_) ?_
  · have rg := ok.rg r hr
    have l24 := rg.l24
    refine ⟨_, rfl, _, rfl, by rw [List.length_map]; omega, ?_⟩
    refine compG_dR (h := fun p => dR (mv2 o x y p)) (fun p hp k hk => ?_) ?_
    · have b := rg.le p hp
      have b1 : intBits p.1 ≤ 9000 := Nat.le_trans (bits_om (by omega) (by omega)) (by decide)
      have b2 : intBits p.2 ≤ 9000 := Nat.le_trans (bits_om (by omega) (by omega)) (by decide)
      exact ⟨_, rfl, _, rfl, _, _, rfl, rfl, ⟨bo, b1⟩, _, rfl, _, _, rfl, rfl, _, rfl, _, rfl, _, _, rfl, rfl, ⟨bo, b2⟩, _, rfl, _, _, rfl, rfl, t2, hk⟩
    · have e : (r.map fun p => dR (mv2 o x y p)) = (r.map (mv2 o x y)).map dR := by rw [List.map_map]; rfl
      rw [e]
      exact hk
  have e : (rs.map fun r => dF2 (r.map (mv2 o x y))) = (rs.map fun r => r.map (mv2 o x y)).map dF2 := by rw [List.map_map]; rfl
  rw [e]
  exact ⟨_, rfl, t2, hk⟩

theorem sc_law_tilted : FnScope ["_law_cloth_here", "_law_top", "_law_under_it", "_law_rings_here", "_law_bottom", "_law_made", "_law_ring"] ["_law_cloth_here", "_law_top", "_law_under_it"] (defScope s_law_tilted) := ⟨rfl, rfl, rfl, by decide +kernel, rfl, by decide +kernel, by decide +kernel⟩

def F_tiltedE : FS := fun as k => ∃ (rs : RR) (n t u : Int), as = [.val (.tup [.lst (rs.map dF2), .int n]), .val (.int t), .val (.int u)] ∧ (RgsOk 400000000 rs) ∧ (1 ≤ n) ∧ (n ≤ 1000000) ∧ (-30 ≤ t ∧ t ≤ 30) ∧ (1 ≤ u ∧ u ≤ 12) ∧ k (.val (.tup [.lst ((rs.map fun r => r.map (tltL t u)).map dF2), .int (n * u)]))
theorem ok_tiltedE {P : Program} {w : World} {K : PySem.W.Frag} {mg : Str → Option Value} {base : Heap} (B : Blts mg)   (F : Fnd K mg "_law_tilted" s_law_tilted ["_law_cloth_here", "_law_top", "_law_under_it"])  :
    Cal P w K mg base "_law_tilted" ["_law_cloth_here", "_law_top", "_law_under_it"] 2 (Con K 3 F_tiltedE) := by
  refine def3 (lv := 1) F sc_law_tilted rfl (fun f cdv A outer s H E hr => ⟨_, (s_cons (s_asg (v3 0) (g_tup (n := 2) rfl (gs_cons (g_name (i := 3) sc_law_tilted.nd rfl (Or.inl rfl)) (gs_cons (g_name (i := 4) sc_law_tilted.nd rfl (Or.inl rfl)) gs_nil)))) (s_cons (s_setO (i := 5) sc_law_tilted.nd rfl (Or.inl rfl) (o_lst l_nil)) (s_cons (s_for PassesOwn.never rfl (i_list (v3 3)) (g_name (i := 6) sc_law_tilted.nd rfl (Or.inl rfl)) (s_one (s_app 5 (o_e (o_compG (ts := ["_law_one", "_law_other"]) (fr := ["_law_top", "_law_under_it"]) (js := [1, 2]) (i_list (v3 6)) (fun _ _ _ _ => (g_tup (n := 2) rfl (gs_cons (g_name (i := 0) (show List.Nodup (["_law_one", "_law_other", "_law_top", "_law_under_it"] : List Str) by decide +kernel) rfl (Or.inl rfl)) (gs_cons (g_name (i := 1) (show List.Nodup (["_law_one", "_law_other", "_law_top", "_law_under_it"] : List Str) by decide +kernel) rfl (Or.inl rfl)) gs_nil)))) (fun _ _ _ _ => ifs_nil) (fun _ _ _ _ => (e_tup (l_cons (e_mul (v3 0) (v3 3)) (l_cons (e_add (e_mul (v3 1) (v3 3)) (e_mul (v3 0) (v3 2))) l_nil)))) ⟨rfl, by decide +kernel, rfl, by decide +kernel, fsub_of (List.forall_mem_cons.mpr ⟨rfl, (List.forall_mem_cons.mpr ⟨rfl, (List.forall_mem_nil _)⟩)⟩), fhas_b rfl, by walk_at "ffr", rfl⟩))))) (s_fz 5 (s_one (s_ret (e_tup (l_cons (v3 5) (l_cons (e_mul (v3 4) (v3 2)) l_nil))))))))), ?_⟩)
  rintro as k hl ⟨rs, n, t, u, rfl, ok, n1, n2, ht, hu, hk⟩
  refine at3 (r := [.val (.tup [.lst (rs.map dF2), .int n]), .val (.int t), .val (.int u), .no, .no, .no, .no]) rfl ?_
  have big : 10000 ≤ sizeLine := by decide
  have t2 : 2 ≤ sizeLine := by decide
  have l8 := ok.l8
  have bt : intBits t ≤ 9000 := Nat.le_trans (bits_om (by omega) (by omega)) (by decide)
  have bu : intBits u ≤ 9000 := Nat.le_trans (bits_om (by omega) (by omega)) (by decide)
  have bn : intBits n ≤ 9000 := Nat.le_trans (bits_om (by omega) (by omega)) (by decide)
  refine ⟨_, rfl, _, rfl, rfl, _, _, rfl, _, _, rfl, rfl, ?_⟩
  refine ⟨Nat.zero_le _, ?_⟩
  dsimp only
  refine mid4 (fun ρ => ∃ v6 : Sl, ρ = [.val (.tup [.lst (rs.map dF2), .int n]), .val (.int t), .val (.int u), .val (.lst (rs.map dF2)), .val (.int n), .own (.l ((rs.map fun r => r.map (tltL t u)).map dF2)), v6]) ?_ (fun N kk => ?_)
  · rintro ρ ⟨v6, rfl⟩
    exact ⟨_, rfl, _, rfl, _, rfl, _, rfl, _, _, rfl, rfl, ⟨bn, bu⟩, t2, hk⟩
  refine ⟨_, rfl, _, rfl, ?_⟩
  refine forR_map (f := dF2) (rs := rs) (done := []) (fun pre ρ => ∃ v6 : Sl, ρ = [.val (.tup [.lst (rs.map dF2), .int n]), .val (.int t), .val (.int u), .val (.lst (rs.map dF2)), .val (.int n), .own (.l ((pre.map fun r => r.map (tltL t u)).map dF2)), v6]) ⟨_, rfl⟩ ?_ (fun ρ h => kk ρ h)
  rintro pre r rest ρ he ⟨v6, rfl⟩ N2 kk2
  rw [List.nil_append] at he
  have rg := ok.rg r (by rw [he]; simp)
  have l24 := rg.l24
  refine ⟨_, rfl, _, rfl, _, rfl, by rw [List.length_map]; omega, ?_⟩
  refine compG_dR (h := fun p => dR (tltL t u p)) (fun p hp k hk => ?_) ?_
  · have b := rg.le p hp
    have b1 : intBits p.1 ≤ 9000 := Nat.le_trans (bits_om (by omega) (by omega)) (by decide)
    have b2 : intBits p.2 ≤ 9000 := Nat.le_trans (bits_om (by omega) (by omega)) (by decide)
    exact ⟨_, rfl, _, rfl, _, _, rfl, rfl, ⟨b1, bu⟩, _, rfl, _, rfl, _, _, rfl, rfl, ⟨b2, bu⟩, _, rfl, _, rfl, _, _, rfl, rfl, ⟨b1, bt⟩, _, _, rfl, rfl, t2, hk⟩
  have e : (r.map fun p => dR (tltL t u p)) = (r.map (tltL t u)).map dR := by rw [List.map_map]; rfl
  rw [e]
  have ll : pre.length ≤ 8 := by
    have := congrArg List.length he
    simp at this
    omega
  refine ⟨by rw [List.length_map, List.length_map]; omega, kk2 _ ⟨_, by rw [List.map_append, List.map_append]; rfl⟩⟩

theorem sc_law_one_more : FnScope ["_law_cloth_here", "_law_bag_here", "_law_rings_here", "_law_bottom", "_law_ring", "_law_made", "_law_k", "_law_x", "_law_y"] ["_law_cloth_here", "_law_bag_here"] (defScope s_law_one_more) := ⟨rfl, rfl, rfl, by decide +kernel, rfl, by decide +kernel, by decide +kernel⟩

def F_moreE : FS := fun as k => ∃ (rs : RR) (n : Int), as = [.val (.tup [.lst (rs.map dF2), .int n]), .bag] ∧ (RgsOk 400000000 rs) ∧ (1 ≤ n) ∧ (n ≤ 1000000) ∧ ((rs.map List.length).sum < 24) ∧ ∀ qs : RR, RgsW 20000000000 qs → (∀ d, smR qs d = 3 * smR rs d) → k (.val (.tup [.lst (qs.map dF2), .int (3 * n)]))
theorem ok_moreE {P : Program} {w : World} {K : PySem.W.Frag} {mg : Str → Option Value} {base : Heap} (B : Blts mg)   (F : Fnd K mg "_law_one_more" s_law_one_more ["_law_cloth_here", "_law_bag_here"]) (c_law_draw : Cal P w K mg base "_law_draw" ["_law_bag_here", "_law_many"] 1 (Con K 2 (F_draw 400))) :
    Cal P w K mg base "_law_one_more" ["_law_cloth_here", "_law_bag_here"] 2 (Con K 2 F_moreE) := by
  refine def3 (lv := 1) F sc_law_one_more rfl (fun f cdv A outer s H E hr => ⟨_, (s_cons (s_asg (v3 0) (g_tup (n := 2) rfl (gs_cons (g_name (i := 2) sc_law_one_more.nd rfl (Or.inl rfl)) (gs_cons (g_name (i := 3) sc_law_one_more.nd rfl (Or.inl rfl)) gs_nil)))) (s_cons (s_compLL (i := 5) sc_law_one_more.nd rfl rfl (ts := ["_law_ring"]) (fr := []) (js := []) (i_list (v3 2)) (fun _ _ _ _ => (g_name (i := 0) (show List.Nodup (["_law_ring"] : List Str) by decide +kernel) rfl (Or.inl rfl))) (fun _ _ _ _ => ifs_nil) (fun _ _ _ _ => (o_compG (ts := ["_law_one", "_law_other"]) (fr := []) (js := []) (i_list (v3 0)) (fun _ _ _ _ => (g_tup (n := 2) rfl (gs_cons (g_name (i := 0) (show List.Nodup (["_law_one", "_law_other"] : List Str) by decide +kernel) rfl (Or.inl rfl)) (gs_cons (g_name (i := 1) (show List.Nodup (["_law_one", "_law_other"] : List Str) by decide +kernel) rfl (Or.inl rfl)) gs_nil)))) (fun _ _ _ _ => ifs_nil) (fun _ _ _ _ => (e_tup (l_cons (e_mul e_int (v3 0)) (l_cons (e_mul e_int (v3 1)) l_nil)))) ⟨rfl, by decide +kernel, rfl, by decide +kernel, fsub_of (List.forall_mem_nil _), fhas_b rfl, by walk_at "ffr", rfl⟩)) ⟨rfl, by decide +kernel, rfl, by decide +kernel, fsub_of (List.forall_mem_nil _), fhas_b rfl, by walk_at "ffr", rfl⟩) (s_cons (s_if (t_show 5 (t_cmp (f := fun i j => decide (j < i)) op_gt (e_len (v3 5) (by rfl) B.len_) e_int (nomark _))) (bk_start (m := 5) (r := 4) sc_law_one_more.nd rfl rfl (Or.inl rfl) (Or.inl rfl) (e_call c_law_draw hr (by rfl) (a_bag 1 (a_val (e_len (v3 5) (by rfl) B.len_) a_nil))) (bk_set (m := 5) (r := 4) (n := 6) sc_law_one_more.nd rfl (Or.inl rfl) (e_call c_law_draw hr (by rfl) (a_bag 1 (a_val (e_len (v3 4) (by rfl) B.len_) a_nil))) (bk_set (m := 5) (r := 4) (n := 7) sc_law_one_more.nd rfl (Or.inl rfl) (e_fdiv (e_add (e_mul e_int (e_ix (e_ix (v3 4) (v3 6) (fun _ _ => rfl)) e_int (fun _ _ => rfl))) (e_ix (e_ix (v3 4) (e_sub (v3 6) e_int) (fun _ _ => rfl)) e_int (fun _ _ => rfl))) e_int) (bk_set (m := 5) (r := 4) (n := 8) sc_law_one_more.nd rfl (Or.inl rfl) (e_fdiv (e_add (e_mul e_int (e_ix (e_ix (v3 4) (v3 6) (fun _ _ => rfl)) e_int (fun _ _ => rfl))) (e_ix (e_ix (v3 4) (e_sub (v3 6) e_int) (fun _ _ => rfl)) e_int (fun _ _ => rfl))) e_int) (bk_ins (m := 5) (r := 4) rfl (Or.inl rfl) (v3 6) (e_tup (l_cons (v3 7) (l_cons (v3 8) l_nil))) s_nil))))) s_nil) (s_fzLL 5 (s_one (s_ret (e_tup (l_cons (o_e (o_rev (v3 5) (e_neg e_int))) (l_cons (e_mul e_int (v3 3)) l_nil))))))))), ?_⟩)
  rintro as k hl ⟨rs, n, rfl, ok, n1, n2, tot, hk⟩
  refine at3 (r := [.val (.tup [.lst (rs.map dF2), .int n]), .bag, .no, .no, .no, .no, .no, .no, .no]) rfl ?_
  have big : 10000 ≤ sizeLine := by decide
  have t2 : 2 ≤ sizeLine := by decide
  have l8 := ok.l8
  refine ⟨_, rfl, _, rfl, rfl, _, _, rfl, _, _, rfl, rfl, ?_⟩
  refine ⟨_, rfl, _, rfl, by rw [List.length_map]; omega, ?_⟩
  refine compLL_map (f := dF2) (rs := rs) (h := fun r => (r.map thr).map dR) (fun r hr k hk => ?_) ?_
  · have rg := ok.rg r hr
    have l24 := rg.l24
    refine ⟨_, rfl, _, rfl, by rw [List.length_map]; omega, ?_⟩
    refine compG_dR (h := fun p => dR (thr p)) (fun p hp k hk => ?_) ?_
    · have b := rg.le p hp
      have b1 : intBits p.1 ≤ 9000 := Nat.le_trans (bits_om (by omega) (by omega)) (by decide)
      have b2 : intBits p.2 ≤ 9000 := Nat.le_trans (bits_om (by omega) (by omega)) (by decide)
      exact ⟨_, rfl, _, _, rfl, rfl, ⟨by decide, b1⟩, _, rfl, _, _, rfl, rfl, ⟨by decide, b2⟩, t2, hk⟩
    · have e : (r.map fun p => dR (thr p)) = (r.map thr).map dR := by rw [List.map_map]; rfl
      rw [e]
      exact hk
  intro a as
  dsimp only
  have e3 : (rs.map fun r => (r.map thr).map dR) = (rs.map fun r => r.map thr).map fun r => r.map dR := by rw [List.map_map]; rfl
  rw [e3]
  have lq : ((rs.map fun r => r.map thr).map fun r => r.map dR).length = rs.length := by rw [List.length_map, List.length_map]
  refine mid4 (fun ρ => ∃ (qs : RR) (v4 v6 v7 v8 : Sl), ρ = [.val (.tup [.lst (rs.map dF2), .int n]), .bag, .val (.lst (rs.map dF2)), .val (.int n), v4, .deep (.ll a as (qs.map fun r => r.map dR)), v6, v7, v8] ∧ RgsW 20000000000 qs.reverse ∧ ∀ d, smR qs.reverse d = 3 * smR rs d) ?_ (fun N kk => ?_)
  · rintro ρ ⟨qs, v4, v6, v7, v8, rfl, w, s⟩
    have bn : intBits n ≤ 9000 := Nat.le_trans (bits_om (by omega) (by omega)) (by decide)
    refine ⟨_, _, _, rfl, ?_⟩
    refine ⟨_, rfl, ?_⟩
    have er : (((qs.map fun r => r.map dR).map D.lst).reverse) = qs.reverse.map dF2 := by rw [List.map_map, ← List.map_reverse]; rfl
    refine ⟨1, rfl, rfl, _, rfl, ?_⟩
    rw [er]
    exact ⟨_, rfl, _, _, rfl, rfl, ⟨by decide, bn⟩, t2, hk qs.reverse w s⟩
  refine ⟨a, as, _, rfl, _, rfl, _, rfl, _, _, rfl, rfl, _, rfl, iteD (fun z => ?_) (fun z => ?_)⟩
  rotate_left
  · have r0 : rs = [] := by
      have z : ¬ (0 : Int) < ((((rs.map fun r => r.map thr).map fun r => r.map dR).map D.lst).length : Nat) := z
      rw [List.length_map, lq] at z
      exact List.eq_nil_of_length_eq_zero (by omega)
    refine kk _ ⟨[], _, _, _, _, by rw [r0]; rfl, ⟨fun r h => by simp at h, by decide, by decide⟩, fun d => by rw [r0]; rfl⟩
  have z : (0 : Int) < ((((rs.map fun r => r.map thr).map fun r => r.map dR).map D.lst).length : Nat) := z
  rw [List.length_map, lq] at z
  have b4 : ∀ x : Int, 0 ≤ x → x ≤ 800 → intBits x ≤ 400 := fun x x0 x1 => Nat.le_trans (intBits_le_iff (m := 10).mpr (by show x.natAbs < 1024; omega)) (by decide)
  refine ⟨by show 4 < 9; decide, a, as, _, rfl, rfl, _, rfl, _, rfl, rfl, _, rfl, by rw [List.length_map, lq]; omega, b4 _ (by omega) (by rw [List.length_map, lq]; omega), fun d d0 d1 => ?_⟩
  dsimp only [fzR]
  rw [List.length_map, lq] at d1
  obtain ⟨j, rfl⟩ : ∃ j : Nat, d = j := ⟨d.toNat, by omega⟩
  have hj : j < rs.length := by omega
  have ix : ixN ((rs.map fun r => r.map thr).map fun r => r.map dR).length (j : Int) = some j := by
    unfold ixN
    rw [if_pos (by omega), if_pos (by rw [lq]; omega), Int.toNat_natCast]
  refine ⟨_, j, rfl, ix, ?_⟩
  have gd : ((rs.map fun r => r.map thr).map fun r => r.map dR)[j]? = some (((rs[j]).map thr).map dR) := by rw [List.getElem?_map, List.getElem?_map, List.getElem?_eq_getElem hj]; rfl
  have rg := ok.rg _ (List.getElem_mem hj)
  have l3 := rg.l3
  have l24 := rg.l24
  have len : (((rs[j]).map thr).map dR).length = (rs[j]).length := by rw [List.length_map, List.length_map]
  refine ⟨_, gd, rfl, _, rfl, _, rfl, rfl, _, rfl, by rw [len]; omega, b4 _ (by omega) (by rw [len]; omega), fun d2 e0 e1 => ?_⟩
  dsimp only [fzR]
  rw [len] at e1
  obtain ⟨i, rfl⟩ : ∃ i : Nat, d2 = i := ⟨d2.toNat, by omega⟩
  have hi : i < (rs[j]).length := by omega
  refine ⟨_, rfl, ?_⟩
  have mk := more3_ok ok tot hj hi
  obtain ⟨a1, a2⟩ := back_F (ps := (rs[j]).map thr) (i := i) (by rw [List.length_map]; exact hi)
  rw [thr_getD, List.length_map] at a1
  rw [thr_getD] at a2
  have kl : (i + (rs[j]).length - 1) % (rs[j]).length < (rs[j]).length := Nat.mod_lt _ (by omega)
  have ba := rg.le _ (getD_mem kl)
  have bb := rg.le _ (getD_mem hi)
  have gj : rs.getD j [] = rs[j] := by simp [hj]
  unfold more3 at mk
  rw [gj] at mk
  generalize (rs[j]).getD ((i + (rs[j]).length - 1) % (rs[j]).length) (0, 0) = pa at mk a1 ba
  generalize (rs[j]).getD i (0, 0) = pb at mk a2 bb
  have bt : ∀ x : Int, -400000000 ≤ x → x ≤ 400000000 → intBits (3 * x) ≤ 9000 := fun x x0 x1 => Nat.le_trans (bits_om (by omega) (by omega)) (by decide)
  have fd : ∀ x y : Int, (2 * (3 * x) + 3 * y).fdiv 3 = 2 * x + y := fun x y => by
    rw [show 2 * (3 * x) + 3 * y = 3 * (2 * x + y) by omega]
    exact Int.mul_fdiv_cancel_left _ (by decide)
  refine ⟨_, gd, ?_⟩
  refine ⟨_, rfl, _, rfl, _, _, _, .inr rfl, rfl, a2, [.int (3 * pb.1), .int (3 * pb.2)], 0, .int (3 * pb.1), .inl rfl, rfl, rfl, _, _, rfl, rfl, ⟨by decide, bt _ (by omega) (by omega)⟩, ?_⟩
  refine ⟨_, rfl, _, rfl, _, _, rfl, rfl, _, _, _, .inr rfl, rfl, a1, [.int (3 * pa.1), .int (3 * pa.2)], 0, .int (3 * pa.1), .inl rfl, rfl, rfl, _, _, rfl, rfl, _, _, rfl, rfl, ⟨by decide, by decide⟩, _, rfl, ?_⟩
  rw [fd]
  refine ⟨_, gd, ?_⟩
  refine ⟨_, rfl, _, rfl, _, _, _, .inr rfl, rfl, a2, [.int (3 * pb.1), .int (3 * pb.2)], 1, .int (3 * pb.2), .inl rfl, rfl, rfl, _, _, rfl, rfl, ⟨by decide, bt _ (by omega) (by omega)⟩, ?_⟩
  refine ⟨_, rfl, _, rfl, _, _, rfl, rfl, _, _, _, .inr rfl, rfl, a1, [.int (3 * pa.1), .int (3 * pa.2)], 1, .int (3 * pa.2), .inl rfl, rfl, rfl, _, _, rfl, rfl, _, _, rfl, rfl, ⟨by decide, by decide⟩, _, rfl, ?_⟩
  rw [fd]
  refine ⟨_, rfl, _, rfl, _, rfl, t2, i, _, a, as, rfl, gd, by rw [len]; omega, by rw [len]; omega, rfl, ?_⟩
  have es : ((rs.map fun r => r.map thr).map fun r => r.map dR).set j (insAt i (.tup [.int (2 * pb.1 + pa.1), .int (2 * pb.2 + pa.2)]) (((rs[j]).map thr).map dR)) = ((rs.map fun r => r.map thr).set j (insAt i (2 * pb.1 + pa.1, 2 * pb.2 + pa.2) ((rs[j]).map thr))).map fun r => r.map dR := by
    rw [List.map_set, ins_map]
    rfl
  rw [es]
  exact kk _ ⟨_, _, _, _, _, rfl, mk.1, mk.2⟩

theorem sc_law_way_tilted : FnScope ["_law_way", "_law_top", "_law_under_it", "_law_x", "_law_y", "_law_often"] ["_law_way", "_law_top", "_law_under_it"] (defScope s_law_way_tilted) := ⟨rfl, rfl, rfl, by decide +kernel, rfl, by decide +kernel, by decide +kernel⟩

def F_wayT : FS := fun as k => ∃ (d : F2) (t u : Int), as = [.val (dR d), .val (.int t), .val (.int u)] ∧ (DrOk d) ∧ (intBits d.1 ≤ 64) ∧ (intBits d.2 ≤ 64) ∧ (-30 ≤ t ∧ t ≤ 30) ∧ (1 ≤ u ∧ u ≤ 12) ∧ k (.val (.tup [dR (trD (tltL t u) d), .int (trC (tltL t u) d)]))
theorem ok_wayT {P : Program} {w : World} {K : PySem.W.Frag} {mg : Str → Option Value} {base : Heap} (B : Blts mg)   (F : Fnd K mg "_law_way_tilted" s_law_way_tilted ["_law_way", "_law_top", "_law_under_it"]) (c_law_measure : Cal P w K mg base "_law_measure" ["_law_one", "_law_other"] 2 (Con K 2 F_law_measure)) :
    Cal P w K mg base "_law_way_tilted" ["_law_way", "_law_top", "_law_under_it"] 3 (Con K 3 F_wayT) := by
  refine def3 (lv := 2) F sc_law_way_tilted rfl (fun f cdv A outer s H E hr => ⟨_, (s_cons (s_set (i := 3) sc_law_way_tilted.nd rfl (Or.inl rfl) (e_mul (e_ix (v3 0) e_int (fun _ _ => rfl)) (v3 2))) (s_cons (s_set (i := 4) sc_law_way_tilted.nd rfl (Or.inl rfl) (e_add (e_mul (e_ix (v3 0) e_int (fun _ _ => rfl)) (v3 2)) (e_mul (e_ix (v3 0) e_int (fun _ _ => rfl)) (v3 1)))) (s_cons (s_set (i := 5) sc_law_way_tilted.nd rfl (Or.inl rfl) (e_call c_law_measure hr (by rfl) (a_val (v3 3) (a_val (v3 4) a_nil)))) (s_cons (s_if (w_t (w_or (t_cmp (f := fun i j => decide (i < j)) op_lt (v3 4) e_int (nomark _)) (w_or1 (w_t (w_and (t_cmp (f := fun i j => decide (i = j)) op_eqI (v3 4) e_int (nomark _)) (w_and1 (t_cmp (f := fun i j => decide (i < j)) op_lt (v3 3) e_int (nomark _)))))))) (s_one (s_set (i := 5) sc_law_way_tilted.nd rfl (Or.inl rfl) (e_neg (v3 5)))) s_nil) (s_one (s_ret (e_tup (l_cons (e_tup (l_cons (e_fdiv (v3 3) (v3 5)) (l_cons (e_fdiv (v3 4) (v3 5)) l_nil))) (l_cons (v3 5) l_nil))))))))), ?_⟩)
  rintro as k hl ⟨d, t, u, rfl, dk, b1, b2, ht, hu, hk⟩
  refine at3 (r := [.val (dR d), .val (.int t), .val (.int u), .no, .no, .no]) rfl ?_
  have bt : intBits t ≤ 64 := bits_om (by omega) (by omega)
  have bu : intBits u ≤ 64 := bits_om (by omega) (by omega)
  have m1 : intBits (d.1 * u) ≤ 128 := intBits_mul_le b1 bu
  have m2 : intBits (d.2 * u) ≤ 128 := intBits_mul_le b2 bu
  have m3 : intBits (d.1 * t) ≤ 128 := intBits_mul_le b1 bt
  refine ⟨_, rfl, [.int d.1, .int d.2], 0, .int d.1, .inl rfl, rfl, rfl, _, rfl, _, _, rfl, rfl, ⟨by omega, by omega⟩, ?_⟩
  refine ⟨_, rfl, [.int d.1, .int d.2], 1, .int d.2, .inl rfl, rfl, rfl, _, rfl, _, _, rfl, rfl, ⟨by omega, by omega⟩, ?_⟩
  refine ⟨_, rfl, [.int d.1, .int d.2], 0, .int d.1, .inl rfl, rfl, rfl, _, rfl, _, _, rfl, rfl, ⟨by omega, by omega⟩, _, _, rfl, rfl, ?_⟩
  have nz := (tlt_ok (t := t) (u := u) (by omega)).nz d dk.nz
  have ba : intBits (d.1 * u) ≤ 4000 := by omega
  have bb : intBits (d.2 * u + d.1 * t) ≤ 4000 := Nat.le_trans (intBits_add_le m2 m3) (by decide)
  have hk : k (.val (.tup [dR (wdir (d.1 * u) (d.2 * u + d.1 * t)), .int (wpar (d.1 * u) (d.2 * u + d.1 * t))])) := hk
  have hab : d.1 * u ≠ 0 ∨ d.2 * u + d.1 * t ≠ 0 := nz
  dsimp only
  generalize d.1 * u = x at hab ba hk ⊢
  generalize d.2 * u + d.1 * t = y at hab bb hk ⊢
  walk_at "w"
  refine ⟨_, _, rfl, ?_⟩
  dsimp only [fzR]
  have gb := gcd_bits2 hab ba bb
  refine mid4 (fun ρ => ρ = [.val (dR d), .val (.int t), .val (.int u), .val (.int x), .val (.int y), .val (.int (wpar x y))]) ?_ (fun N kk => ?_)
  · rintro ρ rfl
    have d0 := wpar_ne hab
    have db : intBits (wpar x y) ≤ 4000 := wpar_bits hab ba bb
    walk_at "w"
    exact hk
  · have pos : y < 0 ∨ y = 0 ∧ x < 0 → wpar x y = -((Int.gcd x y : Nat) : Int) := fun h => by unfold wpar; rw [if_pos h]
    have ngt : ¬ (y < 0 ∨ y = 0 ∧ x < 0) → wpar x y = ((Int.gcd x y : Nat) : Int) := fun h => by unfold wpar; rw [if_neg h]
    walk_at "wd"
    refine iteD (fun g => ?_) (fun g => ?_)
    · refine iteT3 rfl ?_
      walk_at "w"
      exact kk _ (by rw [pos (.inl g)]; rfl)
    · walk_at "wd"
      refine iteD (fun g2 => ?_) (fun g2 => ?_)
      · walk_at "wd"
        refine iteD (fun g3 => ?_) (fun g3 => ?_)
        · walk_at "w"
          exact kk _ (by rw [pos (.inr ⟨g2, g3⟩)]; rfl)
        · exact kk _ (by rw [ngt (fun z => z.elim g fun z => g3 z.2)]; rfl)
      · refine iteF3 rfl ?_
        exact kk _ (by rw [ngt (fun z => z.elim g fun z => g2 z.1)]; rfl)

theorem sc_law_due : FnScope ["_law_some", "_law_top", "_law_under_it", "_law_made", "_law_way", "_law_ratio_of", "_law_other", "_law_often"] ["_law_some", "_law_top", "_law_under_it"] (defScope s_law_due) := ⟨rfl, rfl, rfl, by decide +kernel, rfl, by decide +kernel, by decide +kernel⟩

def F_dueE : FS := fun as k => ∃ (L : MKs) (t u : Int), as = [.val (.lst (L.map dMk)), .val (.int t), .val (.int u)] ∧ (L.length ≤ 24) ∧ (∀ x ∈ L, DrOk x.1 ∧ (intBits x.1.1 ≤ 64 ∧ intBits x.1.2 ≤ 64) ∧ Low x.2.1 x.2.2 ∧ (intBits x.2.1 ≤ 64 ∧ intBits x.2.2 ≤ 64)) ∧ (L.Pairwise fun a b => a.1 ≠ b.1) ∧ (-30 ≤ t ∧ t ≤ 30) ∧ (1 ≤ u ∧ u ≤ 12) ∧ ∀ ks' : List (List (List Int)), ks'.Perm ((L.map (dueX t u)).map kM) → ks'.Pairwise Ahead → k (.own (.l (ks'.map (keyD true))))
theorem ok_dueE {P : Program} {w : World} {K : PySem.W.Frag} {mg : Str → Option Value} {base : Heap} (B : Blts mg)   (F : Fnd K mg "_law_due" s_law_due ["_law_some", "_law_top", "_law_under_it"]) (c_law_way_tilted : Cal P w K mg base "_law_way_tilted" ["_law_way", "_law_top", "_law_under_it"] 3 (Con K 3 F_wayT)) (c_law_low : Cal P w K mg base "_law_low" ["_law_top", "_law_bottom"] 3 (Con K 2 F_lowT)) :
    Cal P w K mg base "_law_due" ["_law_some", "_law_top", "_law_under_it"] 4 (Con K 3 F_dueE) := by
  refine def3 (lv := 3) F sc_law_due rfl (fun f cdv A outer s H E hr => ⟨_, (s_cons (s_setO (i := 3) sc_law_due.nd rfl (Or.inl rfl) (o_lst l_nil)) (s_cons (s_for PassesOwn.never rfl (i_list (v3 0)) (g_tup (n := 2) rfl (gs_cons (g_name (i := 4) sc_law_due.nd rfl (Or.inl rfl)) (gs_cons (g_name (i := 5) sc_law_due.nd rfl (Or.inl rfl)) gs_nil))) (s_cons (s_asg (e_call c_law_way_tilted hr (by rfl) (a_val (v3 4) (a_val (v3 1) (a_val (v3 2) a_nil)))) (g_tup (n := 2) rfl (gs_cons (g_name (i := 6) sc_law_due.nd rfl (Or.inl rfl)) (gs_cons (g_name (i := 7) sc_law_due.nd rfl (Or.inl rfl)) gs_nil)))) (s_one (s_app 3 (e_tup (l_cons (v3 6) (l_cons (e_call c_law_low hr (by rfl) (a_val (e_mul (e_ix (v3 5) e_int (fun _ _ => rfl)) (v3 7)) (a_val (e_mul (e_ix (v3 5) e_int (fun _ _ => rfl)) (v3 2)) a_nil))) l_nil))))))) (s_fz 3 (s_one (s_retO (o_sortK (b := true) (hr.units) (v3 3) (by rfl) B.sorted_)))))), ?_⟩)
  rintro as k hl ⟨L, t, u, rfl, l24, hL, nd, ht, hu, hk⟩
  refine at3 (r := [.val (.lst (L.map dMk)), .val (.int t), .val (.int u), .no, .no, .no, .no, .no]) rfl ?_
  have big : 10000 ≤ sizeLine := by decide
  have t2 : 2 ≤ sizeLine := by decide
  have bt : intBits t ≤ 64 := bits_om (by omega) (by omega)
  have bu : intBits u ≤ 64 := bits_om (by omega) (by omega)
  refine ⟨Nat.zero_le _, ?_⟩
  dsimp only
  refine mid4 (fun ρ => ∃ v4 v5 v6 v7 : Sl, ρ = [.val (.lst (L.map dMk)), .val (.int t), .val (.int u), .own (.l ((L.map (dueX t u)).map dMk)), v4, v5, v6, v7]) ?_ (fun N kk => ?_)
  · rintro ρ ⟨v4, v5, v6, v7, rfl⟩
    refine ⟨_, rfl, ?_⟩
    refine ⟨_, rfl, (L.map (dueX t u)).map kM, by simp only [List.map_map]; rfl, ⟨?_, ?_⟩, fun ks' pm pw => ?_⟩
    · rw [List.length_map, List.length_map]; omega
    · rw [if_pos rfl]
      refine ⟨fun x hx => ?_, ?_⟩
      · obtain ⟨y, _, rfl⟩ := List.mem_map.mp hx
        exact ⟨_, _, rfl⟩
      · rw [List.map_map, List.map_map]
        refine List.pairwise_map.mpr (List.Pairwise.imp_of_mem (fun {a b} ha hb h z => h ?_) nd)
        have z : [(trD (tltL t u) a.1).1, (trD (tltL t u) a.1).2] = [(trD (tltL t u) b.1).1, (trD (tltL t u) b.1).2] := z
        simp at z
        exact ln_inj (tlt_ok (t := t) (u := u) (by omega)) (hL a ha).1 (hL b hb).1 (Prod.ext z.1 z.2)
    · exact hk ks' pm pw
  refine ⟨_, rfl, _, rfl, ?_⟩
  refine forR_pr2 (f := fun x : F2 × F2 => dR x.1) (g := fun x : F2 × F2 => dR x.2) (done := []) (rs := L) (fun pre ρ => ∃ v4 v5 v6 v7 : Sl, ρ = [.val (.lst (L.map dMk)), .val (.int t), .val (.int u), .own (.l ((pre.map (dueX t u)).map dMk)), v4, v5, v6, v7]) ⟨_, _, _, _, rfl⟩ ?_ (fun ρ h => kk ρ h)
  rintro pre x rest ρ he ⟨v4, v5, v6, v7, rfl⟩ N2 kk2
  rw [List.nil_append] at he
  have ll : pre.length < 24 := by
    have := congrArg List.length he
    simp at this
    omega
  obtain ⟨dk, ⟨c1, c2⟩, lw, ⟨c3, c4⟩⟩ := hL x (by rw [he]; simp)
  have nz := (tlt_ok (t := t) (u := u) (by omega)).nz x.1 dk.nz
  have m1 : intBits (x.1.1 * u) ≤ 4000 := Nat.le_trans (intBits_mul_le c1 bu) (by decide)
  have m2 : intBits (x.1.2 * u + x.1.1 * t) ≤ 4000 := Nat.le_trans (intBits_add_le (intBits_mul_le c2 bu) (intBits_mul_le c1 bt)) (by decide)
  have cb : intBits (trC (tltL t u) x.1) ≤ 4000 := wpar_bits nz m1 m2
  refine ⟨_, rfl, _, rfl, _, rfl, rfl, x.1, t, u, rfl, dk, c1, c2, ht, hu, ?_⟩
  dsimp only [fzR]
  refine ⟨_, rfl, rfl, _, _, rfl, _, _, rfl, rfl, ?_⟩
  refine ⟨_, rfl, _, rfl, _, rfl, [.int x.2.1, .int x.2.2], 0, .int x.2.1, .inl rfl, rfl, rfl, _, rfl, _, _, rfl, rfl, ⟨by omega, by omega⟩, ?_⟩
  refine ⟨_, rfl, [.int x.2.1, .int x.2.2], 1, .int x.2.2, .inl rfl, rfl, rfl, _, rfl, _, _, rfl, rfl, ⟨by omega, by omega⟩, rfl, x.2.1 * trC (tltL t u) x.1, x.2.2 * u, rfl, Int.mul_pos lw.1 (by omega), Nat.le_trans (intBits_mul_le c4 bu) (by decide), ?_⟩
  dsimp only [fzR]
  refine ⟨t2, by rw [List.length_map, List.length_map]; omega, kk2 _ ⟨_, _, _, _, by rw [List.map_append, List.map_append]; rfl⟩⟩

theorem sc_law_come_to_nothing : FnScope ["_law_some", "_law_bottom", "_law_way", "_law_often", "_law_across", "_law_up"] ["_law_some"] (defScope s_law_come_to_nothing) := ⟨rfl, rfl, rfl, by decide +kernel, rfl, by decide +kernel, by decide +kernel⟩

def F_nothE : FS := fun as k => ∃ (L : MKs), as = [.val (.lst (L.map dMk))] ∧ (L.length ≤ 24) ∧ (∀ x ∈ L, (intBits x.1.1 ≤ 64 ∧ intBits x.1.2 ≤ 64) ∧ Low x.2.1 x.2.2 ∧ (intBits x.2.1 ≤ 64 ∧ intBits x.2.2 ≤ 64)) ∧ (∃ (n : Int) (S : F2 → Int), 0 < n ∧ (∀ x ∈ L, x.2.1 * n = S x.1 * x.2.2) ∧ (L.map fun x => x.1.1 * S x.1).sum = 0 ∧ (L.map fun x => x.1.2 * S x.1).sum = 0) ∧ k (.val (.bl true))
theorem ok_nothE {P : Program} {w : World} {K : PySem.W.Frag} {mg : Str → Option Value} {base : Heap} (B : Blts mg)   (F : Fnd K mg "_law_come_to_nothing" s_law_come_to_nothing ["_law_some"])  :
    Cal P w K mg base "_law_come_to_nothing" ["_law_some"] 2 (Con K 1 F_nothE) := by
  refine def3 (lv := 1) F sc_law_come_to_nothing rfl (fun f cdv A outer s H E hr => ⟨_, (s_cons (s_set (i := 1) sc_law_come_to_nothing.nd rfl (Or.inr rfl) e_int) (s_cons (s_for PassesOwn.never rfl (i_list (v3 0)) (g_tup (n := 2) rfl (gs_cons (g_name (i := 2) sc_law_come_to_nothing.nd rfl (Or.inl rfl)) (gs_cons (g_name (i := 3) sc_law_come_to_nothing.nd rfl (Or.inl rfl)) gs_nil))) (s_one (s_set (i := 1) sc_law_come_to_nothing.nd rfl (Or.inr rfl) (e_mul (v3 1) (e_ix (v3 3) e_int (fun _ _ => rfl)))))) (s_cons (s_set (i := 4) sc_law_come_to_nothing.nd rfl (Or.inl rfl) (e_sum (o_e (o_compG (ts := ["_law_way", "_law_often"]) (fr := ["_law_bottom"]) (js := [1]) (i_list (v3 0)) (fun _ _ _ _ => (g_tup (n := 2) rfl (gs_cons (g_name (i := 0) (show List.Nodup (["_law_way", "_law_often", "_law_bottom"] : List Str) by decide +kernel) rfl (Or.inl rfl)) (gs_cons (g_name (i := 1) (show List.Nodup (["_law_way", "_law_often", "_law_bottom"] : List Str) by decide +kernel) rfl (Or.inl rfl)) gs_nil)))) (fun _ _ _ _ => ifs_nil) (fun _ _ _ _ => (e_mul (e_mul (e_ix (v3 0) e_int (fun _ _ => rfl)) (e_ix (v3 1) e_int (fun _ _ => rfl))) (e_fdiv (v3 2) (e_ix (v3 1) e_int (fun _ _ => rfl))))) ⟨rfl, by decide +kernel, rfl, by decide +kernel, fsub_of (List.forall_mem_cons.mpr ⟨rfl, (List.forall_mem_nil _)⟩), fhas_b rfl, by walk_at "ffr", rfl⟩)) rfl (by rfl) B.sum_)) (s_cons (s_set (i := 5) sc_law_come_to_nothing.nd rfl (Or.inl rfl) (e_sum (o_e (o_compG (ts := ["_law_way", "_law_often"]) (fr := ["_law_bottom"]) (js := [1]) (i_list (v3 0)) (fun _ _ _ _ => (g_tup (n := 2) rfl (gs_cons (g_name (i := 0) (show List.Nodup (["_law_way", "_law_often", "_law_bottom"] : List Str) by decide +kernel) rfl (Or.inl rfl)) (gs_cons (g_name (i := 1) (show List.Nodup (["_law_way", "_law_often", "_law_bottom"] : List Str) by decide +kernel) rfl (Or.inl rfl)) gs_nil)))) (fun _ _ _ _ => ifs_nil) (fun _ _ _ _ => (e_mul (e_mul (e_ix (v3 0) e_int (fun _ _ => rfl)) (e_ix (v3 1) e_int (fun _ _ => rfl))) (e_fdiv (v3 2) (e_ix (v3 1) e_int (fun _ _ => rfl))))) ⟨rfl, by decide +kernel, rfl, by decide +kernel, fsub_of (List.forall_mem_cons.mpr ⟨rfl, (List.forall_mem_nil _)⟩), fhas_b rfl, by walk_at "ffr", rfl⟩)) rfl (by rfl) B.sum_)) (s_one (s_ret (e_and (e_cmp (f := fun i j => decide (i = j)) op_eqI (v3 4) e_int (nomark _)) (e_one (e_cmp (f := fun i j => decide (i = j)) op_eqI (v3 5) e_int (nomark _)))))))))), ?_⟩)
  rintro as k hl ⟨L, rfl, l24, hL, hz, hk⟩
  refine at3 (r := [.val (.lst (L.map dMk)), .no, .no, .no, .no, .no]) rfl ?_
  have big : 10000 ≤ sizeLine := by decide
  obtain ⟨n, S, n0, he, z1, z2⟩ := hz
  refine mid4 (fun ρ => ρ = [.val (.lst (L.map dMk)), .val (.int 1), .no, .no, .no, .no]) ?_ (fun N kk => kk _ rfl)
  rintro ρ rfl
  refine mid4 (fun ρ => ∃ v2 v3 : Sl, ρ = [.val (.lst (L.map dMk)), .val (.int (prB L 1)), v2, v3, .no, .no] ∧ intBits (prB L 1) ≤ 2000) ?_ (fun N kk => ?_)
  rotate_left
  · refine ⟨_, rfl, _, rfl, ?_⟩
    refine forR_pr2 (f := fun x : F2 × F2 => dR x.1) (g := fun x : F2 × F2 => dR x.2) (done := []) (rs := L) (fun pre ρ => ∃ v2 v3 : Sl, ρ = [.val (.lst (L.map dMk)), .val (.int (prB pre 1)), v2, v3, .no, .no] ∧ intBits (prB pre 1) ≤ 64 * pre.length + 1) ⟨_, _, rfl, by decide⟩ ?_ (fun ρ h => ?_)
    · rintro pre x rest ρ hl ⟨v2, v3, rfl, b⟩ N2 kk2
      rw [List.nil_append] at hl
      have ll : pre.length < 24 := by
        have := congrArg List.length hl
        simp at this
        omega
      obtain ⟨_, lw, ⟨c3, c4⟩⟩ := hL x (by rw [hl]; simp)
      refine ⟨_, rfl, _, rfl, [.int x.2.1, .int x.2.2], 1, .int x.2.2, .inl rfl, rfl, rfl, _, _, rfl, rfl, ⟨by omega, by omega⟩, kk2 _ ⟨_, _, by rw [prB_app]; rfl, ?_⟩⟩
      rw [prB_app, List.length_append, List.length_singleton]
      exact Nat.le_trans (intBits_mul_le b c4) (by omega)
    · obtain ⟨v2, v3, rfl, b⟩ := h
      rw [List.nil_append] at b ⊢
      exact kk _ ⟨v2, v3, rfl, by omega⟩
  rintro ρ ⟨v2, v3, rfl, bP⟩
  have dv := (prB_dvd (L := L) (p := 1)).2
  generalize prB L 1 = P at bP dv
  have pp : ∀ x ∈ L, 0 < x.2.2 ∧ x.2.1 * n = S x.1 * x.2.2 ∧ x.2.2 ∣ P := fun x hx => ⟨(hL x hx).2.1.1, he x hx, dv x hx⟩
  have qb : ∀ x ∈ L, intBits (P.fdiv x.2.2) ≤ 2000 := fun x hx => by
    obtain ⟨p0, _, ⟨q, hq⟩⟩ := pp x hx
    have fd : P.fdiv x.2.2 = q := by rw [hq]; exact Int.mul_fdiv_cancel_left _ (by omega)
    rw [fd]
    refine bits_of_abs ?_ bP
    rw [hq, Int.natAbs_mul]
    exact Nat.le_mul_of_pos_left _ (by omega)
  have s1 := noth_sum (g := fun d => d.1) n0 pp z1
  have s2 := noth_sum (g := fun d => d.2) n0 pp z2
  refine ⟨_, rfl, _, rfl, by rw [List.length_map]; omega, ?_⟩
  refine compG_pr (f := fun x : F2 × F2 => dR x.1) (g := fun x : F2 × F2 => dR x.2) (h := fun x => D.int (x.1.1 * x.2.1 * (P.fdiv x.2.2))) (fun x hx k hk => ?_) ?_
  · obtain ⟨⟨c1, c2⟩, lw, ⟨c3, c4⟩⟩ := hL x hx
    have q := qb x hx
    have m := intBits_mul_le c1 c3
    exact ⟨_, rfl, [.int x.1.1, .int x.1.2], 0, .int x.1.1, .inl rfl, rfl, rfl, _, rfl, [.int x.2.1, .int x.2.2], 0, .int x.2.1, .inl rfl, rfl, rfl, _, _, rfl, rfl, ⟨by omega, by omega⟩, _, rfl, _, rfl, [.int x.2.1, .int x.2.2], 1, .int x.2.2, .inl rfl, rfl, rfl, _, _, rfl, rfl, ⟨by have := lw.1; omega, by omega⟩, _, _, rfl, rfl, ⟨by omega, by omega⟩, hk⟩
  refine ⟨L.map fun x => x.1.1 * x.2.1 * (P.fdiv x.2.2), by rw [List.map_map]; rfl, ?_⟩
  rw [s1]
  refine ⟨_, rfl, _, rfl, by rw [List.length_map]; omega, ?_⟩
  refine compG_pr (f := fun x : F2 × F2 => dR x.1) (g := fun x : F2 × F2 => dR x.2) (h := fun x => D.int (x.1.2 * x.2.1 * (P.fdiv x.2.2))) (fun x hx k hk => ?_) ?_
  · obtain ⟨⟨c1, c2⟩, lw, ⟨c3, c4⟩⟩ := hL x hx
    have q := qb x hx
    have m := intBits_mul_le c2 c3
    exact ⟨_, rfl, [.int x.1.1, .int x.1.2], 1, .int x.1.2, .inl rfl, rfl, rfl, _, rfl, [.int x.2.1, .int x.2.2], 0, .int x.2.1, .inl rfl, rfl, rfl, _, _, rfl, rfl, ⟨by omega, by omega⟩, _, rfl, _, rfl, [.int x.2.1, .int x.2.2], 1, .int x.2.2, .inl rfl, rfl, rfl, _, _, rfl, rfl, ⟨by have := lw.1; omega, by omega⟩, _, _, rfl, rfl, ⟨by omega, by omega⟩, hk⟩
  refine ⟨L.map fun x => x.1.2 * x.2.1 * (P.fdiv x.2.2), by rw [List.map_map]; rfl, ?_⟩
  rw [s2]
  exact ⟨_, rfl, _, _, rfl, rfl, _, rfl, ⟨_, rfl, _, _, rfl, rfl, hk⟩⟩

theorem sc_greatest_divisor : FnScope ["one", "other"] ["one", "other"] (defScope s_greatest_divisor) := ⟨rfl, rfl, rfl, by decide +kernel, rfl, by decide +kernel, by decide +kernel⟩

def F_greatest_divisor : FS := fun as k => ∃ (a b : Int), as = [.val (.int a), .val (.int b)] ∧ k (.val (.int (Int.gcd a b : Nat)))
theorem ok_greatest_divisor {P : Program} {w : World} {K : PySem.W.Frag} {mg : Str → Option Value} {base : Heap} (B : Blts mg)   (F : Fnd K mg "greatest_divisor" s_greatest_divisor ["one", "other"])  :
    Cal P w K mg base "greatest_divisor" ["one", "other"] 2 (Con K 2 F_greatest_divisor) := by
  refine def3 (lv := 1) F sc_greatest_divisor rfl (fun f cdv A outer s H E hr => ⟨_, (s_cons (s_set (i := 0) sc_greatest_divisor.nd rfl (Or.inl rfl) (e_abs (v3 0) (by rfl) B.abs_)) (s_cons (s_set (i := 1) sc_greatest_divisor.nd rfl (Or.inl rfl) (e_abs (v3 1) (by rfl) B.abs_)) (s_cons (s_while PassesOwn.never (t_cmp (f := fun i j => !decide (i = j)) op_neI (v3 1) e_int (nomark _)) (s_one (s_par (i := 0) (j := 1) rfl sc_greatest_divisor.nd rfl rfl (by decide) rfl rfl (l_cons (v3 1) (l_cons (e_mod (v3 0) (v3 1)) l_nil)) rfl))) (s_one (s_ret (v3 0)))))), ?_⟩)
  rintro as k hl ⟨a, b, rfl, hk⟩
  refine at3 (r := [.val (.int a), .val (.int b)]) rfl ?_
  walk_at "wd"
  refine ⟨fun m ρ => ∃ (x y : Int), ρ = [.val (.int x), .val (.int y)] ∧ 0 ≤ x ∧ 0 ≤ y ∧ Int.gcd x y = Int.gcd a b ∧ m = y.toNat, ⟨_, _, _, rfl, ?_, ?_, gcd_abs a b, rfl⟩, ?_⟩
  · split <;> omega
  · split <;> omega
  rintro m ρ ⟨x, y, rfl, x0, y0, hg, rfl⟩
  walk_at "wd"
  refine iteDn (fun g => ?_) (fun g => ?_)
  · have g : 0 < y := by omega
    walk_at "wd"
    have m0 := Int.emod_nonneg x (show y ≠ 0 by omega)
    have m1 := Int.emod_lt_of_pos x g
    exact ⟨_, _, rfl, _, by omega, _, _, rfl, y0, m0, by rw [gcd_step x0 g]; exact hg, rfl⟩
  · subst g
    refine ⟨_, rfl, ?_⟩
    rw [← gcd_zero_left x0, hg]
    exact hk

theorem sc_ratio : FnScope ["top", "bottom", "divisor"] ["top", "bottom"] (defScope s_ratio) := ⟨rfl, rfl, rfl, by decide +kernel, rfl, by decide +kernel, by decide +kernel⟩

def F_ratio : FS := fun as k => ∃ (t b : Int), as = [.val (.int t), .val (.int b)] ∧ (b ≠ 0) ∧ (intBits b ≤ 9000) ∧ k (.val (dR (nrat t b)))
theorem ok_ratio {P : Program} {w : World} {K : PySem.W.Frag} {mg : Str → Option Value} {base : Heap} (B : Blts mg)   (F : Fnd K mg "ratio" s_ratio ["top", "bottom"]) (c_greatest_divisor : Cal P w K mg base "greatest_divisor" ["one", "other"] 2 (Con K 2 F_greatest_divisor)) :
    Cal P w K mg base "ratio" ["top", "bottom"] 3 (Con K 2 F_ratio) := by
  refine def3 (lv := 2) F sc_ratio rfl (fun f cdv A outer s H E hr => ⟨_, (s_cons (s_if (t_cmp (f := fun i j => decide (i = j)) op_eqI (v3 1) e_int (nomark _)) (s_one s_never) s_nil) (s_cons (s_set (i := 2) sc_ratio.nd rfl (Or.inl rfl) (e_call c_greatest_divisor hr (by rfl) (a_val (v3 0) (a_val (v3 1) a_nil)))) (s_cons (s_if (t_cmp (f := fun i j => decide (i < j)) op_lt (v3 1) e_int (nomark _)) (s_one (s_set (i := 2) sc_ratio.nd rfl (Or.inl rfl) (e_neg (v3 2)))) s_nil) (s_one (s_ret (e_tup (l_cons (e_fdiv (v3 0) (v3 2)) (l_cons (e_fdiv (v3 1) (v3 2)) l_nil)))))))), ?_⟩)
  rintro as k hl ⟨t, b, rfl, hb, bb, hk⟩
  refine at3 (r := [.val (.int t), .val (.int b), .no]) rfl ?_
  walk_at "wd"
  refine iteD (fun g => absurd g hb) (fun _ => ?_)
  walk_at "w"
  refine ⟨_, _, rfl, ?_⟩
  dsimp only [fzR]
  have gp := gcd_pos (t := t) hb
  have gb := gcd_bits (a := t) hb bb
  refine mid4 (fun ρ => ρ = [.val (.int t), .val (.int b), .val (.int (gsg t b))]) ?_ (fun N kk => ?_)
  · rintro ρ rfl
    have d0 : gsg t b ≠ 0 := by unfold gsg; split <;> omega
    have db : intBits (gsg t b) ≤ 9000 := by
      unfold gsg
      split
      · exact intBits_neg_le gb
      · exact gb
    walk_at "w"
    exact hk
  · walk_at "wd"
    refine iteD (fun g => ?_) (fun g => ?_)
    · walk_at "w"
      refine kk _ ?_
      unfold gsg
      rw [if_pos g]
      rfl
    · refine kk _ ?_
      unfold gsg
      rw [if_neg g]
      rfl

theorem sc_plus : FnScope ["one", "other", "shared", "top", "divisor"] ["one", "other"] (defScope s_plus) := ⟨rfl, rfl, rfl, by decide +kernel, rfl, by decide +kernel, by decide +kernel⟩

def F_plus : FS := fun as k => ∃ (x y u v : Int), as = [.val (dR (x, y)), .val (dR (u, v))] ∧ (Low x y) ∧ (Low u v) ∧ (intBits x ≤ 4000) ∧ (intBits y ≤ 4000) ∧ (intBits u ≤ 4000) ∧ (intBits v ≤ 4000) ∧ k (.val (dR (nrat (x * v + u * y) (y * v))))
theorem ok_plus {P : Program} {w : World} {K : PySem.W.Frag} {mg : Str → Option Value} {base : Heap} (B : Blts mg)   (F : Fnd K mg "plus" s_plus ["one", "other"]) (c_greatest_divisor : Cal P w K mg base "greatest_divisor" ["one", "other"] 2 (Con K 2 F_greatest_divisor)) :
    Cal P w K mg base "plus" ["one", "other"] 3 (Con K 2 F_plus) := by
  refine def3 (lv := 2) F sc_plus rfl (fun f cdv A outer s H E hr => ⟨_, (s_cons (s_set (i := 2) sc_plus.nd rfl (Or.inl rfl) (e_call c_greatest_divisor hr (by rfl) (a_val (e_ix (v3 0) e_int (fun _ _ => rfl)) (a_val (e_ix (v3 1) e_int (fun _ _ => rfl)) a_nil)))) (s_cons (s_set (i := 3) sc_plus.nd rfl (Or.inl rfl) (e_add (e_mul (e_ix (v3 0) e_int (fun _ _ => rfl)) (e_fdiv (e_ix (v3 1) e_int (fun _ _ => rfl)) (v3 2))) (e_mul (e_ix (v3 1) e_int (fun _ _ => rfl)) (e_fdiv (e_ix (v3 0) e_int (fun _ _ => rfl)) (v3 2))))) (s_cons (s_set (i := 4) sc_plus.nd rfl (Or.inl rfl) (e_call c_greatest_divisor hr (by rfl) (a_val (v3 2) (a_val (v3 3) a_nil)))) (s_one (s_ret (e_tup (l_cons (e_fdiv (v3 3) (v3 4)) (l_cons (e_mul (e_fdiv (e_ix (v3 0) e_int (fun _ _ => rfl)) (v3 2)) (e_fdiv (e_ix (v3 1) e_int (fun _ _ => rfl)) (v3 4))) l_nil)))))))), ?_⟩)
  rintro as k hl ⟨x, y, u, v, rfl, l1, l2, bx, bY, bu, bv, hk⟩
  refine at3 (r := [.val (dR (x, y)), .val (dR (u, v)), .no, .no, .no]) rfl ?_
  have v0 : v ≠ 0 := Int.ne_of_gt l2.1
  have sp := gcd_pos (t := y) (b := v) v0
  have sb := gcd_bits (a := y) (b := v) v0 bv
  have pl := fun top d => plus_low l1 l2 (s := ((Int.gcd y v : Nat) : Int)) (top := top) (d := d) rfl
  walk_at "w"
  refine ⟨_, _, rfl, ?_⟩
  dsimp only [fzR]
  generalize ((Int.gcd y v : Nat) : Int) = s at *
  have b1 : intBits (v.fdiv s) ≤ 4000 := bits_of_abs (natAbs_fdiv_le _ _) bv
  have b2 : intBits (y.fdiv s) ≤ 4000 := bits_of_abs (natAbs_fdiv_le _ _) bY
  have tb : intBits (x * v.fdiv s + u * y.fdiv s) ≤ 8001 := intBits_add_le (intBits_mul_le bx b1) (intBits_mul_le bu b2)
  have pl := fun d => pl _ d rfl
  walk_at "w"
  refine ⟨_, _, rfl, ?_⟩
  dsimp only [fzR]
  generalize x * v.fdiv s + u * y.fdiv s = top at *
  have pl := pl _ rfl
  have dp := gcd_pos2 (a := s) (b := top) (.inl (Int.ne_of_gt sp))
  have db : intBits ((Int.gcd s top : Nat) : Int) ≤ 4000 := by
    rw [Int.gcd_comm]
    exact gcd_bits (Int.ne_of_gt sp) sb
  generalize ((Int.gcd s top : Nat) : Int) = d at *
  have b3 : intBits (v.fdiv d) ≤ 4000 := bits_of_abs (natAbs_fdiv_le _ _) bv
  rw [← pl] at hk
  walk_at "w"
  exact hk

theorem sc_turned : FnScope ["p", "a", "b", "n"] ["p"] (defScope s_turned) := ⟨rfl, rfl, rfl, by decide +kernel, rfl, by decide +kernel, by decide +kernel⟩

def F_turned : FS := fun as k => ∃ (p : P3), as = [.val (dP p)] ∧ k (.val (dP (trn p)))
theorem ok_turned {P : Program} {w : World} {K : PySem.W.Frag} {mg : Str → Option Value} {base : Heap} (B : Blts mg)   (F : Fnd K mg "turned" s_turned ["p"])  :
    Cal P w K mg base "turned" ["p"] 2 (Con K 1 F_turned) := by
  refine def3 (lv := 1) F sc_turned rfl (fun f cdv A outer s H E hr => ⟨_, (s_cons (s_asg (v3 0) (g_tup (n := 3) rfl (gs_cons (g_name (i := 1) sc_turned.nd rfl (Or.inl rfl)) (gs_cons (g_name (i := 2) sc_turned.nd rfl (Or.inl rfl)) (gs_cons (g_name (i := 3) sc_turned.nd rfl (Or.inl rfl)) gs_nil))))) (s_one (s_ret (e_tup (l_cons (e_neg (v3 1)) (l_cons (e_neg (v3 2)) (l_cons (v3 3) l_nil))))))), ?_⟩)
  rintro as k hl ⟨p, rfl, hk⟩
  refine at3 (r := [.val (dP p), .no, .no, .no]) rfl ?_
  walk_at "w"
  refine ⟨_, _, rfl, _, _, rfl, _, _, rfl, rfl, ?_⟩
  walk_at "w"
  exact hk

theorem sc_slid : FnScope ["p", "step", "a", "b", "n", "right", "up", "parts", "shared", "x", "y", "divisor"] ["p", "step"] (defScope s_slid) := ⟨rfl, rfl, rfl, by decide +kernel, rfl, by decide +kernel, by decide +kernel⟩

def F_slid : FS := fun as k => ∃ (p g : P3), as = [.val (dP p), .val (dP g)] ∧ (PtP p) ∧ (BP 1000 p) ∧ (PtP g) ∧ (BP 1000 g) ∧ k (.val (dP (nP (sld g p))))
theorem ok_slid {P : Program} {w : World} {K : PySem.W.Frag} {mg : Str → Option Value} {base : Heap} (B : Blts mg)   (F : Fnd K mg "slid" s_slid ["p", "step"]) (c_greatest_divisor : Cal P w K mg base "greatest_divisor" ["one", "other"] 2 (Con K 2 F_greatest_divisor)) :
    Cal P w K mg base "slid" ["p", "step"] 3 (Con K 2 F_slid) := by
  refine def3 (lv := 2) F sc_slid rfl (fun f cdv A outer s H E hr => ⟨_, (s_cons (s_asg (v3 0) (g_tup (n := 3) rfl (gs_cons (g_name (i := 2) sc_slid.nd rfl (Or.inl rfl)) (gs_cons (g_name (i := 3) sc_slid.nd rfl (Or.inl rfl)) (gs_cons (g_name (i := 4) sc_slid.nd rfl (Or.inl rfl)) gs_nil))))) (s_cons (s_asg (v3 1) (g_tup (n := 3) rfl (gs_cons (g_name (i := 5) sc_slid.nd rfl (Or.inl rfl)) (gs_cons (g_name (i := 6) sc_slid.nd rfl (Or.inl rfl)) (gs_cons (g_name (i := 7) sc_slid.nd rfl (Or.inl rfl)) gs_nil))))) (s_cons (s_set (i := 8) sc_slid.nd rfl (Or.inl rfl) (e_call c_greatest_divisor hr (by rfl) (a_val (v3 4) (a_val (v3 7) a_nil)))) (s_cons (s_set (i := 9) sc_slid.nd rfl (Or.inl rfl) (e_add (e_mul (v3 2) (e_fdiv (v3 7) (v3 8))) (e_mul (v3 5) (e_fdiv (v3 4) (v3 8))))) (s_cons (s_set (i := 10) sc_slid.nd rfl (Or.inl rfl) (e_add (e_mul (v3 3) (e_fdiv (v3 7) (v3 8))) (e_mul (v3 6) (e_fdiv (v3 4) (v3 8))))) (s_cons (s_set (i := 11) sc_slid.nd rfl (Or.inl rfl) (e_call c_greatest_divisor hr (by rfl) (a_val (e_call c_greatest_divisor hr (by rfl) (a_val (v3 8) (a_val (v3 9) a_nil))) (a_val (v3 10) a_nil)))) (s_one (s_ret (e_tup (l_cons (e_fdiv (v3 9) (v3 11)) (l_cons (e_fdiv (v3 10) (v3 11)) (l_cons (e_mul (e_fdiv (v3 4) (v3 8)) (e_fdiv (v3 7) (v3 11))) l_nil)))))))))))), ?_⟩)
  rintro as k hl ⟨p, g, rfl, h0p, bp, h0g, bg, hk⟩
  refine at3 (r := [.val (dP p), .val (dP g), .no, .no, .no, .no, .no, .no, .no, .no, .no, .no]) rfl ?_
  obtain ⟨a, b, n⟩ := p
  obtain ⟨r, w, m⟩ := g
  have h1 : intBits a ≤ 1000 := bp.a
  have h2 : intBits b ≤ 1000 := bp.b
  have h3 : intBits n ≤ 1000 := bp.c
  have h4 : intBits r ≤ 1000 := bg.a
  have h5 : intBits w ≤ 1000 := bg.b
  have h6 : intBits m ≤ 1000 := bg.c
  have n0 : n ≠ 0 := Int.ne_of_gt h0p.1
  have m0 : m ≠ 0 := Int.ne_of_gt h0g.1
  have sp := gcd_pos (t := n) (b := m) m0
  have sb := gcd_bits (a := n) (b := m) m0 h6
  have pl := fun X Y d => slid_low (a := a) (b := b) (n := n) (r := r) (w := w) (m := m) h0p h0g (s := ((Int.gcd n m : Nat) : Int)) (X := X) (Y := Y) (d := d) rfl
  have hk : k (.val (dP (npt (a * m + r * n) (b * m + w * n) (n * m)))) := hk
  refine ⟨_, rfl, _, rfl, rfl, _, _, rfl, _, _, rfl, _, _, rfl, rfl, ?_⟩
  refine ⟨_, rfl, _, rfl, rfl, _, _, rfl, _, _, rfl, _, _, rfl, rfl, ?_⟩
  walk_at "w"
  refine ⟨_, _, rfl, ?_⟩
  dsimp only [fzR]
  generalize ((Int.gcd n m : Nat) : Int) = s at *
  have b1 : intBits (m.fdiv s) ≤ 1000 := bits_of_abs (natAbs_fdiv_le _ _) h6
  have b2 : intBits (n.fdiv s) ≤ 1000 := bits_of_abs (natAbs_fdiv_le _ _) h3
  have tb : intBits (a * m.fdiv s + r * n.fdiv s) ≤ 2001 := intBits_add_le (intBits_mul_le h1 b1) (intBits_mul_le h4 b2)
  have ub : intBits (b * m.fdiv s + w * n.fdiv s) ≤ 2001 := intBits_add_le (intBits_mul_le h2 b1) (intBits_mul_le h5 b2)
  have pl := fun d => pl _ _ d rfl rfl
  walk_at "w"
  refine ⟨_, _, rfl, ?_⟩
  dsimp only [fzR]
  walk_at "w"
  refine ⟨_, _, rfl, ?_⟩
  dsimp only [fzR]
  generalize a * m.fdiv s + r * n.fdiv s = X at *
  generalize b * m.fdiv s + w * n.fdiv s = Y at *
  have pl := pl _ rfl
  have ep := gcd_pos2 (a := s) (b := X) (.inl (Int.ne_of_gt sp))
  have eb : intBits ((Int.gcd s X : Nat) : Int) ≤ 1000 := by
    rw [Int.gcd_comm]
    exact gcd_bits (Int.ne_of_gt sp) sb
  generalize ((Int.gcd s X : Nat) : Int) = e at *
  have dp := gcd_pos2 (a := e) (b := Y) (.inl (Int.ne_of_gt ep))
  have db : intBits ((Int.gcd e Y : Nat) : Int) ≤ 1000 := by
    rw [Int.gcd_comm]
    exact gcd_bits (Int.ne_of_gt ep) eb
  generalize ((Int.gcd e Y : Nat) : Int) = d at *
  have b3 : intBits (m.fdiv d) ≤ 1000 := bits_of_abs (natAbs_fdiv_le _ _) h6
  rw [← pl] at hk
  walk_at "w"
  exact hk

theorem sc_step_to : FnScope ["p", "q"] ["p", "q"] (defScope s_step_to) := ⟨rfl, rfl, rfl, by decide +kernel, rfl, by decide +kernel, by decide +kernel⟩

def F_step_to : FS := fun as k => ∃ (p q : P3), as = [.val (dP p), .val (dP q)] ∧ (PtP p) ∧ (BP 1000 p) ∧ (PtP q) ∧ (BP 1000 q) ∧ k (.val (dP (nP (sld (trn p) q))))
theorem ok_step_to {P : Program} {w : World} {K : PySem.W.Frag} {mg : Str → Option Value} {base : Heap} (B : Blts mg)   (F : Fnd K mg "step_to" s_step_to ["p", "q"]) (c_slid : Cal P w K mg base "slid" ["p", "step"] 3 (Con K 2 F_slid)) (c_turned : Cal P w K mg base "turned" ["p"] 2 (Con K 1 F_turned)) :
    Cal P w K mg base "step_to" ["p", "q"] 4 (Con K 2 F_step_to) := by
  refine def3 (lv := 3) F sc_step_to rfl (fun f cdv A outer s H E hr => ⟨_, (s_one (s_ret (e_call c_slid hr (by rfl) (a_val (v3 1) (a_val (e_call c_turned hr (by rfl) (a_val (v3 0) a_nil)) a_nil))))), ?_⟩)
  rintro as k hl ⟨p, q, rfl, h0p, bp, h0q, bq, hk⟩
  refine at3 (r := [.val (dP p), .val (dP q)]) rfl ?_
  refine ⟨_, rfl, _, rfl, rfl, p, rfl, ?_⟩
  exact ⟨rfl, q, trn p, rfl, h0q, bq, pt_neg h0p, ⟨intBits_neg_le bp.a, intBits_neg_le bp.b, bp.c⟩, hk⟩

theorem sc_sides_of : FnScope ["ring"] ["ring"] (defScope s_sides_of) := ⟨rfl, rfl, rfl, by decide +kernel, rfl, by decide +kernel, by decide +kernel⟩

def F_sidesE : FS := fun as k => ∃ (ps : List P3), as = [.val (.lst (ps.map dP))] ∧ (1 ≤ ps.length) ∧ (ps.length ≤ 1000) ∧ k (.own ((ps.zip (ps.drop 1 ++ ps.take 1)).map dPr))
theorem ok_sidesE {P : Program} {w : World} {K : PySem.W.Frag} {mg : Str → Option Value} {base : Heap} (B : Blts mg)   (F : Fnd K mg "sides_of" s_sides_of ["ring"])  :
    Cal P w K mg base "sides_of" ["ring"] 2 (Con K 1 F_sidesE) := by
  refine def3 (lv := 1) F sc_sides_of rfl (fun f cdv A outer s H E hr => ⟨_, (s_one (s_retO (o_zip (v3 0) (o_e (o_cat (o_e (o_slice (v3 0) (p_some e_int) p_none)) (o_e (o_slice (v3 0) p_none (p_some e_int))))) rfl (by rfl) B.list_ (by rfl) B.zip_))), ?_⟩)
  rintro as k hl ⟨ps, rfl, n1, n2, hk⟩
  refine at3 (r := [.val (.lst (ps.map dP))]) rfl ?_
  have big : 1000 ≤ sizeLine := by decide
  have e1 : cutL (ps.map dP) (some 1) none = (ps.drop 1).map dP := by
    rw [cutL_drop (by decide) (by rw [List.length_map]; omega), ← List.map_drop]; rfl
  have e2 : cutL (ps.map dP) none (some 1) = (ps.take 1).map dP := by
    rw [cutL_take (by decide) (by rw [List.length_map]; omega), ← List.map_take]; rfl
  refine ⟨_, rfl, _, rfl, _, rfl, _, rfl, _, rfl, _, rfl, _, rfl, _, _, rfl, rfl, ?_, _, _, rfl, rfl, ?_⟩
  · rw [e1, e2]
    simp only [List.length_map, List.length_drop, List.length_take]
    omega
  rw [e1, e2, ← List.map_append, List.zip_map, List.map_map]
  exact hk

theorem sc_way_of : FnScope ["step", "a", "b", "n", "parts"] ["step"] (defScope s_way_of) := ⟨rfl, rfl, rfl, by decide +kernel, rfl, by decide +kernel, by decide +kernel⟩

def F_way_of : FS := fun as k => ∃ (a b n : Int), as = [.val (dP (a, b, n))] ∧ (a ≠ 0 ∨ b ≠ 0) ∧ (n ≠ 0) ∧ (intBits a ≤ 4000) ∧ (intBits b ≤ 4000) ∧ (intBits n ≤ 4000) ∧ k (.val (.tup [dR (wdir a b), dR (nrat (wpar a b) n)]))
theorem ok_way_of {P : Program} {w : World} {K : PySem.W.Frag} {mg : Str → Option Value} {base : Heap} (B : Blts mg)   (F : Fnd K mg "way_of" s_way_of ["step"]) (c_greatest_divisor : Cal P w K mg base "greatest_divisor" ["one", "other"] 2 (Con K 2 F_greatest_divisor)) (c_ratio : Cal P w K mg base "ratio" ["top", "bottom"] 3 (Con K 2 F_ratio)) :
    Cal P w K mg base "way_of" ["step"] 4 (Con K 1 F_way_of) := by
  refine def3 (lv := 3) F sc_way_of rfl (fun f cdv A outer s H E hr => ⟨_, (s_cons (s_asg (v3 0) (g_tup (n := 3) rfl (gs_cons (g_name (i := 1) sc_way_of.nd rfl (Or.inl rfl)) (gs_cons (g_name (i := 2) sc_way_of.nd rfl (Or.inl rfl)) (gs_cons (g_name (i := 3) sc_way_of.nd rfl (Or.inl rfl)) gs_nil))))) (s_cons (s_set (i := 4) sc_way_of.nd rfl (Or.inl rfl) (e_call c_greatest_divisor hr (by rfl) (a_val (v3 1) (a_val (v3 2) a_nil)))) (s_cons (s_if (w_t (w_or (t_cmp (f := fun i j => decide (i < j)) op_lt (v3 2) e_int (nomark _)) (w_or1 (w_t (w_and (t_cmp (f := fun i j => decide (i = j)) op_eqI (v3 2) e_int (nomark _)) (w_and1 (t_cmp (f := fun i j => decide (i < j)) op_lt (v3 1) e_int (nomark _)))))))) (s_one (s_set (i := 4) sc_way_of.nd rfl (Or.inl rfl) (e_neg (v3 4)))) s_nil) (s_one (s_ret (e_tup (l_cons (e_tup (l_cons (e_fdiv (v3 1) (v3 4)) (l_cons (e_fdiv (v3 2) (v3 4)) l_nil))) (l_cons (e_call c_ratio hr (by rfl) (a_val (v3 4) (a_val (v3 3) a_nil))) l_nil)))))))), ?_⟩)
  rintro as k hl ⟨a, b, n, rfl, hab, hn, ba, bb, bn, hk⟩
  refine at3 (r := [.val (dP (a, b, n)), .no, .no, .no, .no]) rfl ?_
  refine ⟨_, rfl, _, rfl, rfl, _, _, rfl, _, _, rfl, _, _, rfl, rfl, ?_⟩
  walk_at "w"
  refine ⟨_, _, rfl, ?_⟩
  dsimp only [fzR]
  have gb := gcd_bits2 hab ba bb
  refine mid4 (fun ρ => ρ = [.val (dP (a, b, n)), .val (.int a), .val (.int b), .val (.int n), .val (.int (wpar a b))]) ?_ (fun N kk => ?_)
  · rintro ρ rfl
    have d0 := wpar_ne hab
    have db : intBits (wpar a b) ≤ 4000 := by
      unfold wpar
      split
      · exact intBits_neg_le gb
      · exact gb
    walk_at "w"
    refine ⟨_, _, rfl, hn, by walk_at "bits", ?_⟩
    walk_at "w"
    exact hk
  · have pos : b < 0 ∨ b = 0 ∧ a < 0 → wpar a b = -((Int.gcd a b : Nat) : Int) := fun h => by unfold wpar; rw [if_pos h]
    have ngt : ¬ (b < 0 ∨ b = 0 ∧ a < 0) → wpar a b = ((Int.gcd a b : Nat) : Int) := fun h => by unfold wpar; rw [if_neg h]
    walk_at "wd"
    refine iteD (fun g => ?_) (fun g => ?_)
    · refine iteT3 rfl ?_
      walk_at "w"
      exact kk _ (by rw [pos (.inl g)]; rfl)
    · walk_at "wd"
      refine iteD (fun g2 => ?_) (fun g2 => ?_)
      · walk_at "wd"
        refine iteD (fun g3 => ?_) (fun g3 => ?_)
        · walk_at "w"
          exact kk _ (by rw [pos (.inr ⟨g2, g3⟩)]; rfl)
        · exact kk _ (by rw [ngt (by omega)]; rfl)
      · refine iteF3 rfl ?_
        exact kk _ (by rw [ngt (by omega)]; rfl)

theorem sc_marks : FnScope ["cloth", "sums", "ring", "p", "q", "direction", "share"] ["cloth"] (defScope s_marks) := ⟨rfl, rfl, rfl, by decide +kernel, rfl, by decide +kernel, by decide +kernel⟩

def F_marksE : FS := fun as k => ∃ (rs : RR) (n : Int), as = [.val (.lst (rs.map fun r => .lst (r.map fun p => dP (npt p.1 p.2 n))))] ∧ (RgsW 20000000000 rs) ∧ (1 ≤ n) ∧ (n ≤ 12000000) ∧ ∀ L, MkOk (smR rs) n L → L.length ≤ 24 → k (.own (L.map dMk))
theorem ok_marksE {P : Program} {w : World} {K : PySem.W.Frag} {mg : Str → Option Value} {base : Heap} (B : Blts mg)   (F : Fnd K mg "marks" s_marks ["cloth"]) (c_sides_of : Cal P w K mg base "sides_of" ["ring"] 2 (Con K 1 F_sidesE)) (c_way_of : Cal P w K mg base "way_of" ["step"] 4 (Con K 1 F_way_of)) (c_step_to : Cal P w K mg base "step_to" ["p", "q"] 4 (Con K 2 F_step_to)) (c_plus : Cal P w K mg base "plus" ["one", "other"] 3 (Con K 2 F_plus)) :
    Cal P w K mg base "marks" ["cloth"] 5 (Con K 1 F_marksE) := by
  refine def3 (lv := 4) F sc_marks rfl (fun f cdv A outer s H E hr => ⟨_, (s_cons (s_dnew (b := false) (i := 1) sc_marks.nd rfl (Or.inl rfl)) (s_cons (s_for PassesOwn.never rfl (i_list (v3 0)) (g_name (i := 2) sc_marks.nd rfl (Or.inl rfl)) (s_one (s_for PassesOwn.never rfl (i_list (e_call c_sides_of hr (by rfl) (a_val (v3 2) a_nil))) (g_tup (n := 2) rfl (gs_cons (g_name (i := 3) sc_marks.nd rfl (Or.inl rfl)) (gs_cons (g_name (i := 4) sc_marks.nd rfl (Or.inl rfl)) gs_nil))) (s_cons (s_asg (e_call c_way_of hr (by rfl) (a_val (e_call c_step_to hr (by rfl) (a_val (v3 3) (a_val (v3 4) a_nil))) a_nil)) (g_tup (n := 2) rfl (gs_cons (g_name (i := 5) sc_marks.nd rfl (Or.inl rfl)) (gs_cons (g_name (i := 6) sc_marks.nd rfl (Or.inl rfl)) gs_nil)))) (s_one (s_dput (b := false) 1 (hu4 hr) (v3 5) (e_call c_plus hr (by rfl) (a_val (e_dget2 (b := false) 1 (hu4 hr) (v3 5) (e_tup (l_cons e_int (l_cons e_int l_nil)))) (a_val (v3 6) a_nil))))))))) (s_fzD 1 (s_one (s_retO (o_sortK (b := true) (hr.units) (o_e (o_compE (ts := ["direction", "total"]) (fr := []) (js := []) (i_items (v3 1)) (fun _ _ _ _ => (g_tup (n := 2) rfl (gs_cons (g_name (i := 0) (show List.Nodup (["direction", "total"] : List Str) by decide +kernel) rfl (Or.inl rfl)) (gs_cons (g_name (i := 1) (show List.Nodup (["direction", "total"] : List Str) by decide +kernel) rfl (Or.inl rfl)) gs_nil)))) (fun _ _ _ _ => (ifs_one (t_ne (hr.units) (v3 1) (e_tup (l_cons e_int (l_cons e_int l_nil))) (nomark _)))) (fun _ _ _ _ => (e_tup (l_cons (v3 0) (l_cons (v3 1) l_nil)))) ⟨rfl, by decide +kernel, rfl, by decide +kernel, fsub_of (List.forall_mem_nil _), fhas_b rfl, by walk_at "ffr", rfl⟩)) (by rfl) B.sorted_)))))), ?_⟩)
  rintro as k hl ⟨rs, n, rfl, ok, n1, n2, hk⟩
  refine at3 (r := [.val (.lst (rs.map fun r => .lst (r.map fun p => dP (npt p.1 p.2 n)))), .no, .no, .no, .no, .no, .no]) rfl ?_
  have big : 10000 ≤ sizeLine := by decide
  have t2 : 2 ≤ sizeLine := by decide
  have n0 : 0 < n := by omega
  have cl : (fun r : List F2 => D.lst (r.map fun p => dP (npt p.1 p.2 n))) = fun r => .lst ((r.map (pN n)).map dP) := funext fun r => by rw [List.map_map]; rfl
  rw [cl]
  generalize hf : (fun r : List F2 => D.lst ((r.map (pN n)).map dP)) = f
  refine mid4 (fun ρ => ρ = [.val (.lst (rs.map f)), .own (.d false none [] (([] : List F2).map dR)), .no, .no, .no, .no, .no]) ?_ (fun N kk => kk _ rfl)
  rintro ρ rfl
  refine mid4 (fun ρ => ∃ (ks : List (List (List Int))) (vs : List F2) (v2 v3 v4 v5 v6 : Sl), ρ = [.val (.lst (rs.map f)), .own (.d false none ks (vs.map dR)), v2, v3, v4, v5, v6] ∧ DcOk ks vs (0, 1) (fun d => nrat (smR rs d) n) ∧ ks.length ≤ 24) ?_ (fun N kk => ?_)
  · rintro ρ ⟨ks, vs, v2, v3, v4, v5, v6, rfl, dc, l⟩
    refine ⟨false, none, ks, _, rfl, ?_⟩
    obtain ⟨ds, e1, e2⟩ := dc_list (V := fun d => nrat (smR rs d) n) dc.nd dc.len dc.ky fun d hd => lk_some dc hd
    have nd : ds.Nodup := (List.pairwise_map.mp (show (ds.map kD).Nodup from e1 ▸ dc.nd)).imp fun {a b} h z => h (by rw [z])
    have all : ∀ d, smR rs d ≠ 0 → d ∈ ds := fun d hd => by
      by_cases m : kD d ∈ ks
      · rw [e1] at m
        obtain ⟨b, hb, q⟩ := List.mem_map.mp m
        rw [← kD_inj q]; exact hb
      · exact absurd ((nrat_zero_iff n0).mp (lk_zero dc m)) hd
    have ll : ds.length ≤ 24 := by rw [e1, List.length_map] at l; exact l
    rw [e1, e2]
    have ps : ∀ d ∈ ds, (!eqD (dR (nrat (smR rs d) n)) (.tup [.int 0, .int 1])) = decide (smR rs d ≠ 0) := fun d _ => by
      rw [show eqD (dR (nrat (smR rs d) n)) (.tup [.int 0, .int 1]) = decide (smR rs d = 0) from eqD_of (by
        rw [decide_eq_true_eq, ← nrat_zero_iff n0]
        exact ⟨fun z => by rw [z]; rfl, fun z => dR_inj (q := (0, 1)) z⟩)]
      by_cases z : smR rs d = 0 <;> simp [z]
    refine ⟨_, rfl, false, _, _, rfl, by simp, ?_⟩
    rw [prD_map]
    refine ⟨by rw [List.length_map]; omega, ?_⟩
    refine compG_flt2 (f := dR) (g := fun d => dR (nrat (smR rs d) n)) (P := fun d => decide (smR rs d ≠ 0)) (h := fun d => dMk (d, nrat (smR rs d) n)) (fun d hd k hk => ?_) (fun d hd k hk => ?_) ?_
    · refine ⟨_, rfl, t2, .T [.I, .I], rfl, rfl, by decide, _, rfl, ?_⟩
      show k (!eqD (dR (nrat (smR rs d) n)) (.tup [.int 0, .int 1]))
      rw [ps d hd]
      exact hk
    · exact ⟨_, rfl, _, rfl, t2, hk⟩
    refine ⟨((ds.filter fun d => decide (smR rs d ≠ 0)).map fun d => (d, nrat (smR rs d) n)).map kM, by rw [List.map_map, List.map_map]; rfl, ⟨?_, ?_⟩, fun ks' pm pw => ?_⟩
    · rw [List.length_map, List.length_map]
      exact Nat.lt_of_le_of_lt (List.length_filter_le _ _) (by omega)
    · rw [if_pos rfl]
      refine ⟨fun x hx => ?_, ?_⟩
      · obtain ⟨y, _, rfl⟩ := List.mem_map.mp hx
        exact ⟨_, _, rfl⟩
      · rw [List.map_map, List.map_map]
        exact List.pairwise_map.mpr ((nd.filter _).imp fun {a b} h z => h (by
          have z : [a.1, a.2] = [b.1, b.2] := z
          simp at z
          exact Prod.ext z.1 z.2))
    · obtain ⟨L, eL, mk⟩ := mk_sort nd all pm pw
      have lL : L.length ≤ 24 := by
        have a := congrArg List.length eL
        rw [List.length_map, List.length_map, pm.length_eq, List.length_map, List.length_map] at a
        rw [← a]
        exact Nat.le_trans (List.length_filter_le _ _) ll
      show k (.own (.l (ks'.map (keyD true))))
      rw [eL]
      exact hk L mk lL
  refine ⟨_, rfl, _, rfl, ?_⟩
  have le : ∀ r ∈ rs, ∀ e ∈ sds r, e.1 ∈ r ∧ e.2 ∈ r := fun r _ e he => by
    obtain ⟨h1, h2⟩ := List.of_mem_zip he
    refine ⟨h1, ?_⟩
    rcases List.mem_append.mp h2 with h | h
    · exact List.mem_of_mem_drop h
    · exact List.mem_of_mem_take h
  have pe : ∀ r ∈ rs, ∀ e ∈ sds r, NoSpot e ∧ -40000000000 ≤ parE e ∧ parE e ≤ 40000000000 := fun r hr e he => by
    have rg := ok.rg r hr
    have ns := rg.ns e he
    obtain ⟨m1, m2⟩ := le r hr e he
    obtain ⟨p1, p2, p3, p4⟩ := rg.le _ m1
    obtain ⟨q1, q2, q3, q4⟩ := rg.le _ m2
    exact ⟨ns, wpar_le ns (by show _ ≤ e.2.1 - e.1.1; omega) (by show e.2.1 - e.1.1 ≤ _; omega) (by show _ ≤ e.2.2 - e.1.2; omega) (by show e.2.2 - e.1.2 ≤ _; omega)⟩
  refine forR_map (f := f) (rs := rs) (done := []) (fun pre ρ => ∃ (ks : List (List (List Int))) (vs : List F2) (v2 v3 v4 v5 v6 : Sl), ρ = [.val (.lst (rs.map f)), .own (.d false none ks (vs.map dR)), v2, v3, v4, v5, v6] ∧ DcOk ks vs (0, 1) (fun d => nrat (smR pre d) n) ∧ ks.length ≤ (pre.map List.length).sum) ⟨[], [], _, _, _, _, _, rfl, dc_start.ext fun d => (nrat_nil n0).symm, by simp⟩ ?_ (fun ρ h => ?_)
  rotate_left
  · obtain ⟨ks, vs, v2, v3, v4, v5, v6, rfl, dc, l⟩ := h
    rw [List.nil_append] at dc l
    exact kk _ ⟨ks, vs, _, _, _, _, _, rfl, dc, Nat.le_trans l ok.l24⟩
  rintro pre r rest ρ he ⟨ks, vs, v2, v3, v4, v5, v6, rfl, dc, l⟩ N2 kk2
  rw [List.nil_append] at he
  have mr : r ∈ rs := by rw [he]; simp
  have mpre : ∀ x ∈ pre, x ∈ rs := fun x hx => by rw [he]; simp [hx]
  have rg := ok.rg r mr
  have l24 := ok.l24
  have r3 := rg.l3
  have tot : (rs.map List.length).sum = (pre.map List.length).sum + (r.length + (rest.map List.length).sum) := by rw [he, List.map_append, List.sum_append, List.map_cons, List.sum_cons]
  have sl : (sds r).length = r.length := by
    unfold sds
    rw [List.length_zip, List.length_append, List.length_drop, List.length_take]; omega
  refine ⟨_, rfl, rfl, r.map (pN n), by rw [← hf]; rfl, by rw [List.length_map]; omega, by rw [List.length_map]; omega, _, rfl, ?_⟩
  rw [sds_tup]
  refine forR_pr2 (done := []) (rs := sds r) (fun es ρ => ∃ (ks : List (List (List Int))) (vs : List F2) (v3 v4 v5 v6 : Sl), ρ = [.val (.lst (rs.map f)), .own (.d false none ks (vs.map dR)), .val (f r), v3, v4, v5, v6] ∧ DcOk ks vs (0, 1) (fun d => nrat (smR pre d + smD d es) n) ∧ ks.length ≤ (pre.map List.length).sum + es.length) ⟨ks, vs, _, _, _, _, rfl, dc.ext fun d => by simp [smD], by simpa using l⟩ ?_ (fun ρ h => ?_)
  rotate_left
  · obtain ⟨ks, vs, v3, v4, v5, v6, rfl, dc, l⟩ := h
    rw [List.nil_append] at dc l
    refine kk2 _ ⟨ks, vs, _, _, _, _, _, rfl, dc.ext fun d => ?_, ?_⟩
    · rw [smR_app]
    · rw [List.map_append, List.sum_append]; simp; omega
  rintro es e rest2 ρ he2 ⟨ks, vs, v3, v4, v5, v6, rfl, dc, l⟩ N3 kk3
  rw [List.nil_append] at he2
  have me : e ∈ sds r := by rw [he2]; simp
  have mes : ∀ x ∈ es, x ∈ sds r := fun x hx => by rw [he2]; simp [hx]
  have esl : es.length < r.length := by rw [← sl, he2]; simp
  obtain ⟨m1, m2⟩ := le r mr e me
  obtain ⟨ns, w1, w2⟩ := pe r mr e me
  obtain ⟨p0, pb⟩ := pN_ok2 n1 n2 (by decide) (rg.le _ m1)
  obtain ⟨q0, qb⟩ := pN_ok2 n1 n2 (by decide) (rg.le _ m2)
  obtain ⟨y1, y2, y3⟩ := way_npt (a := e.2.1 - e.1.1) (b := e.2.2 - e.1.2) n0 ns
  obtain ⟨⟨z0, _⟩, _, _, z1, z2, z3⟩ := npt_spec (a := e.2.1 - e.1.1) (b := e.2.2 - e.1.2) (n := n) (by omega)
  obtain ⟨g1, g2, g3, g4⟩ := rg.le _ m1
  obtain ⟨h1, h2, h3, h4⟩ := rg.le _ m2
  refine mid4 (fun ρ => ρ = [.val (.lst (rs.map f)), .own (.d false none ks (vs.map dR)), .val (f r), .val (dP (pN n e.1)), .val (dP (pN n e.2)), .val (dR (dirE e)), .val (dR (nrat (parE e) n))]) ?_ (fun N kk => ?_)
  rotate_left
  · refine ⟨_, rfl, _, rfl, rfl, pN n e.1, pN n e.2, rfl, p0, ⟨Nat.le_trans pb.a (by decide), Nat.le_trans pb.b (by decide), Nat.le_trans pb.c (by decide)⟩, q0, ⟨Nat.le_trans qb.a (by decide), Nat.le_trans qb.b (by decide), Nat.le_trans qb.c (by decide)⟩, ?_⟩
    rw [step_pN n0]
    generalize npt (e.2.1 - e.1.1) (e.2.2 - e.1.2) n = R at y1 y2 y3 z0 z1 z2 z3 ⊢
    obtain ⟨rx, ry, rz⟩ := R
    dsimp only at y1 y2 y3 z0 z1 z2 z3
    refine ⟨rfl, rx, ry, rz, rfl, y3, by omega, Nat.le_trans (bits_om (by omega) (by omega)) (by decide), Nat.le_trans (bits_om (by omega) (by omega)) (by decide), Nat.le_trans (bits_om (by omega) (by omega)) (by decide), ?_⟩
    rw [y1, y2]
    exact ⟨_, rfl, rfl, _, _, rfl, _, _, rfl, rfl, kk _ rfl⟩
  rintro ρ rfl
  obtain ⟨s1, s2⟩ := smR_le (rs := pre) (M := 40000000000) (d := dirE e) (by decide) fun x hx y hy => (pe x (mpre x hx) y hy).2
  obtain ⟨u1, u2⟩ := smD_le (es := es) (M := 40000000000) (d := dirE e) (by decide) fun y hy => (pe r mr y (mes y hy)).2
  have bound : -10000000000000 ≤ smR pre (dirE e) + smD (dirE e) es ∧ smR pre (dirE e) + smD (dirE e) es ≤ 10000000000000 := by
    have a1 : (((pre.map List.length).sum : Nat) : Int) ≤ 24 := by omega
    have a2 : ((es.length : Nat) : Int) ≤ 24 := by omega
    omega
  obtain ⟨f1, f2, f3⟩ := nrat_b2 n1 n2 bound.1 bound.2
  obtain ⟨k1, k2, k3⟩ := nrat_b2 (s := parE e) n1 n2 (by omega) (by omega)
  have eat : (lkA ks (vs.map dR) (kD (dirE e))).getD (.tup [.int 0, .int 1]) = dR (nrat (smR pre (dirE e) + smD (dirE e) es) n) := by rw [lk_dR, dc.at_]
  obtain ⟨l1, l2⟩ := pt_len (k := kD (dirE e)) (x := nrat (smR pre (dirE e) + smD (dirE e) es + parE e) n) dc.len
  refine ⟨none, ks, _, rfl, _, rfl, t2, kD (dirE e), rfl, (fun _ => ⟨_, rfl⟩), ?_⟩
  rw [eat]
  refine ⟨_, rfl, rfl, (nrat (smR pre (dirE e) + smD (dirE e) es) n).1, (nrat (smR pre (dirE e) + smD (dirE e) es) n).2, (nrat (parE e) n).1, (nrat (parE e) n).2, rfl, f1, k1, f2, f3, k2, k3, ?_⟩
  rw [add_nrat n0]
  refine ⟨none, ks, _, rfl, _, rfl, kD (dirE e), rfl, (fun _ => ⟨_, rfl⟩), by omega, ?_⟩
  refine kk3 _ ⟨ptK ks (kD (dirE e)), ptA ks vs (kD (dirE e)) (nrat (smR pre (dirE e) + smD (dirE e) es + parE e) n), _, _, _, _, by rw [pt_map]; rfl, dc.put _ _ ?_ (fun d hd => ?_), by rw [List.length_append, List.length_singleton]; omega⟩
  · rw [smD_app]
    simp [smD]
    congr 1
    omega
  · rw [smD_app]
    simp [smD, Ne.symm hd]

theorem sc_law_right : FnScope ["_law_bag_here", "_law_cloth_here", "_law_found", "_law_x", "_law_y", "_law_turned_one", "_law_top", "_law_under_it", "_law_leaning"] ["_law_bag_here", "_law_cloth_here"] (defScope s_law_right) := ⟨rfl, rfl, rfl, by decide +kernel, rfl, by decide +kernel, by decide +kernel⟩

def F_rightE : FS := fun as k => ∃ (rs : RR) (n : Int), as = [.bag, .val (.tup [.lst (rs.map dF2), .int n])] ∧ (RgsOk 400000000 rs) ∧ (1 ≤ n) ∧ (n ≤ 1000000) ∧ k (.val (.bl true))
theorem ok_rightE {P : Program} {w : World} {K : PySem.W.Frag} {mg : Str → Option Value} {base : Heap} (B : Blts mg)   (F : Fnd K mg "_law_right" s_law_right ["_law_bag_here", "_law_cloth_here"]) (c_marks : Cal P w K mg base "marks" ["cloth"] 5 (Con K 1 F_marksE)) (c_law_told : Cal P w K mg base "_law_told" ["_law_cloth_here"] 4 (Con K 1 F_toldE)) (c_law_draw : Cal P w K mg base "_law_draw" ["_law_bag_here", "_law_many"] 1 (Con K 2 (F_draw 400))) (c_law_moved : Cal P w K mg base "_law_moved" ["_law_cloth_here", "_law_often", "_law_x", "_law_y"] 2 (Con K 4 F_movedE)) (c_law_come_to_nothing : Cal P w K mg base "_law_come_to_nothing" ["_law_some"] 2 (Con K 1 F_nothE)) (c_law_tilted : Cal P w K mg base "_law_tilted" ["_law_cloth_here", "_law_top", "_law_under_it"] 2 (Con K 3 F_tiltedE)) (c_law_due : Cal P w K mg base "_law_due" ["_law_some", "_law_top", "_law_under_it"] 4 (Con K 3 F_dueE)) (c_law_one_more : Cal P w K mg base "_law_one_more" ["_law_cloth_here", "_law_bag_here"] 2 (Con K 2 F_moreE)) :
    Cal P w K mg base "_law_right" ["_law_bag_here", "_law_cloth_here"] 6 (Con K 2 F_rightE) := by
  refine def3 (lv := 5) F sc_law_right rfl (fun f cdv A outer s H E hr => ⟨_, (s_cons (s_set (i := 2) sc_law_right.nd rfl (Or.inl rfl) (e_call c_marks hr (by rfl) (a_val (e_call c_law_told hr (by rfl) (a_val (v3 1) a_nil)) a_nil))) (s_cons (s_set (i := 3) sc_law_right.nd rfl (Or.inl rfl) (e_sub (e_call c_law_draw hr (by rfl) (a_bag 0 (a_val (e_mul e_int (e_pow e_int e_int)) a_nil))) (e_pow e_int e_int))) (s_cons (s_set (i := 4) sc_law_right.nd rfl (Or.inl rfl) (e_sub (e_call c_law_draw hr (by rfl) (a_bag 0 (a_val (e_mul e_int (e_pow e_int e_int)) a_nil))) (e_pow e_int e_int))) (s_cons (s_if (t_ne (hr.units) (e_call c_marks hr (by rfl) (a_val (e_call c_law_told hr (by rfl) (a_val (e_call c_law_moved hr (by rfl) (a_val (v3 1) (a_val e_int (a_val (v3 3) (a_val (v3 4) a_nil))))) a_nil)) a_nil)) (v3 2) (nomark _)) (s_one (s_ret e_bl)) s_nil) (s_cons (s_if (t_not (t_val (e_call c_law_come_to_nothing hr (by rfl) (a_val (v3 2) a_nil)))) (s_one (s_ret e_bl)) s_nil) (s_cons (s_thenFz 5 (s_compA (i := 5) sc_law_right.nd rfl rfl (ts := ["_law_way", "_law_often"]) (fr := []) (js := []) (i_list (v3 2)) (fun _ _ _ _ => (g_tup (n := 2) rfl (gs_cons (g_name (i := 0) (show List.Nodup (["_law_way", "_law_often"] : List Str) by decide +kernel) rfl (Or.inl rfl)) (gs_cons (g_name (i := 1) (show List.Nodup (["_law_way", "_law_often"] : List Str) by decide +kernel) rfl (Or.inl rfl)) gs_nil)))) (fun _ _ _ _ => ifs_nil) (fun _ _ _ _ => (e_tup (l_cons (v3 0) (l_cons (e_tup (l_cons (e_neg (e_ix (v3 1) e_int (fun _ _ => rfl))) (l_cons (e_ix (v3 1) e_int (fun _ _ => rfl)) l_nil))) l_nil)))) ⟨rfl, by decide +kernel, rfl, by decide +kernel, fsub_of (List.forall_mem_nil _), fhas_b rfl, by walk_at "ffr", rfl⟩)) (s_cons (s_if (t_ne (hr.units) (e_call c_marks hr (by rfl) (a_val (e_call c_law_told hr (by rfl) (a_val (e_call c_law_moved hr (by rfl) (a_val (v3 1) (a_val (e_neg e_int) (a_val (v3 3) (a_val (v3 4) a_nil))))) a_nil)) a_nil)) (v3 5) (nomark _)) (s_one (s_ret e_bl)) s_nil) (s_cons (s_set (i := 6) sc_law_right.nd rfl (Or.inl rfl) (e_sub (e_call c_law_draw hr (by rfl) (a_bag 0 (a_val e_int a_nil))) e_int)) (s_cons (s_set (i := 7) sc_law_right.nd rfl (Or.inl rfl) (e_add e_int (e_call c_law_draw hr (by rfl) (a_bag 0 (a_val e_int a_nil))))) (s_cons (s_set (i := 8) sc_law_right.nd rfl (Or.inl rfl) (e_call c_law_told hr (by rfl) (a_val (e_call c_law_tilted hr (by rfl) (a_val (v3 1) (a_val (v3 6) (a_val (v3 7) a_nil)))) a_nil))) (s_cons (s_if (t_ne (hr.units) (e_call c_marks hr (by rfl) (a_val (v3 8) a_nil)) (e_call c_law_due hr (by rfl) (a_val (v3 2) (a_val (v3 6) (a_val (v3 7) a_nil)))) (nomark _)) (s_one (s_ret e_bl)) s_nil) (s_cons (s_if (t_cmp (f := fun i j => decide (i < j)) op_lt (e_sum (o_e (o_compG (ts := ["_law_ring"]) (fr := []) (js := []) (i_list (e_ix (v3 1) e_int (fun _ _ => rfl))) (fun _ _ _ _ => (g_name (i := 0) (show List.Nodup (["_law_ring"] : List Str) by decide +kernel) rfl (Or.inl rfl))) (fun _ _ _ _ => ifs_nil) (fun _ _ _ _ => (e_len (v3 0) (by rfl) B.len_)) ⟨rfl, by decide +kernel, rfl, by decide +kernel, fsub_of (List.forall_mem_nil _), fhas_b rfl, by walk_at "ffr", rfl⟩)) rfl (by rfl) B.sum_) e_int (nomark _)) (s_one (s_ret (e_eq (hr.units) (e_call c_marks hr (by rfl) (a_val (e_call c_law_told hr (by rfl) (a_val (e_call c_law_one_more hr (by rfl) (a_val (v3 1) (a_bag 0 a_nil))) a_nil)) a_nil)) (v3 2) (nomark _)))) s_nil) (s_one (s_ret e_bl)))))))))))))), ?_⟩)
  rintro as k hl ⟨rs, n, rfl, ok, n1, n2, hk⟩
  refine at3 (r := [.bag, .val (.tup [.lst (rs.map dF2), .int n]), .no, .no, .no, .no, .no, .no, .no]) rfl ?_
  have big : 10000 ≤ sizeLine := by decide
  have t2 : 2 ≤ sizeLine := by decide
  have hM : ∀ L : MKs, has (.L (.T [.T [.I, .I], .T [.I, .I]])) (.lst (L.map dMk)) = true := fun L => by
    show ((L.map dMk).all fun x => has (.T [.T [.I, .I], .T [.I, .I]]) x) = true
    rw [List.all_eq_true]
    intro x hx
    obtain ⟨y, _, rfl⟩ := List.mem_map.mp hx
    rfl
  have n12 : n ≤ 12000000 := by omega
  have okw := ok.w (m' := 20000000000) (by decide)
  refine ⟨_, rfl, rfl, rs, n, rfl, okw, n1, n12, ?_⟩
  dsimp only [fzR]
  refine ⟨rfl, rs, n, rfl, okw, n1, n12, fun L mk lL => ?_⟩
  dsimp only [fzR]
  have mb := mk_b ok n1 n2 mk
  have p9 : ((10 : Int) ^ (9 : Int).toNat) = 1000000000 := rfl
  refine ⟨rfl, _, _, rfl, rfl, ⟨by decide, by decide⟩, _, _, rfl, rfl, ⟨by decide, by decide +kernel⟩, rfl, _, rfl, by decide, by decide +kernel, fun x x0 x1 => ?_⟩
  dsimp only [fzR]
  refine ⟨_, _, rfl, rfl, ⟨by decide, by decide⟩, _, _, rfl, rfl, ?_⟩
  rw [p9] at x1
  rw [p9]
  obtain ⟨X, hX⟩ : ∃ X : Int, x - 1000000000 = X := ⟨_, rfl⟩
  rw [hX]
  have hx : -1000000000 ≤ X ∧ X ≤ 1000000000 := by omega
  refine ⟨rfl, _, _, rfl, rfl, ⟨by decide, by decide⟩, _, _, rfl, rfl, ⟨by decide, by decide +kernel⟩, rfl, _, rfl, by decide, by decide +kernel, fun y y0 y1 => ?_⟩
  dsimp only [fzR]
  refine ⟨_, _, rfl, rfl, ⟨by decide, by decide⟩, _, _, rfl, rfl, ?_⟩
  rw [p9] at y1
  rw [p9]
  obtain ⟨Y, hY⟩ : ∃ Y : Int, y - 1000000000 = Y := ⟨_, rfl⟩
  rw [hY]
  have hy : -1000000000 ≤ Y ∧ Y ≤ 1000000000 := by omega
  clear hX hY x0 x1 y0 y1 x y
  refine pass4 (fun N kk => ?_) ?_
  · refine ⟨_, rfl, _, rfl, _, rfl, rfl, rs, n, 1, X, Y, rfl, ok, n1, n2, .inl rfl, hx, hy, ?_⟩
    dsimp only [fzR]
    have w1 := mv_rgs (o := 1) ok (.inl rfl) hx hy
    refine ⟨rfl, _, n, rfl, w1, n1, n12, ?_⟩
    dsimp only [fzR]
    refine ⟨rfl, _, n, rfl, w1, n1, n12, fun L1 mk1 l1 => ?_⟩
    dsimp only [fzR]
    have e1 : L1 = L := (mk1.same fun d => by rw [smR_scl (by decide) (mv_st 1 X Y) ok.ns d, Int.one_mul]).uniq mk
    rw [e1]
    refine ⟨_, rfl, _, hM L, hM L, by decide, _, rfl, ?_⟩
    rw [if_pos rfl, eqD_self]
    exact iteF kk
  refine pass4 (fun N kk => ?_) ?_
  · have zz := marks_zero ok.ns mk
    refine ⟨_, rfl, rfl, L, rfl, lL, fun x hx => ⟨(mb x hx).2.1, (mb x hx).2.2.1, (mb x hx).2.2.2.1⟩, ⟨n, smR rs, by omega, fun x hx => (mb x hx).2.2.2.2.1, zz.1, zz.2⟩, ?_⟩
    dsimp only [fzR]
    exact ⟨_, rfl, iteF kk⟩
  refine ⟨_, rfl, _, rfl, by rw [List.length_map]; omega, ?_⟩
  refine compG_pr (f := fun x : F2 × F2 => dR x.1) (g := fun x : F2 × F2 => dR x.2) (h := fun x => dMk (x.1, (-x.2.1, x.2.2))) (fun x hx k hk => ?_) ?_
  · exact ⟨_, rfl, _, rfl, [.int x.2.1, .int x.2.2], 0, .int x.2.1, .inl rfl, rfl, rfl, _, rfl, _, rfl, [.int x.2.1, .int x.2.2], 1, .int x.2.2, .inl rfl, rfl, rfl, t2, t2, hk⟩
  have en : (L.map fun x => dMk (x.1, (-x.2.1, x.2.2))) = (L.map fun x => (x.1, (-x.2.1, x.2.2))).map dMk := by rw [List.map_map]; rfl
  rw [en]
  have mkn := mk.neg (by omega)
  generalize (L.map fun x => (x.1, (-x.2.1, x.2.2))) = Ln at mkn
  refine ⟨_, rfl, ?_⟩
  dsimp only
  refine pass4 (fun N kk => ?_) ?_
  · refine ⟨_, rfl, 1, rfl, _, rfl, _, rfl, rfl, rs, n, -1, X, Y, rfl, ok, n1, n2, .inr rfl, hx, hy, ?_⟩
    dsimp only [fzR]
    have w1 := mv_rgs (o := -1) ok (.inr rfl) hx hy
    refine ⟨rfl, _, n, rfl, w1, n1, n12, ?_⟩
    dsimp only [fzR]
    refine ⟨rfl, _, n, rfl, w1, n1, n12, fun L1 mk1 l1 => ?_⟩
    dsimp only [fzR]
    have e1 : L1 = Ln := (mk1.same fun d => by rw [smR_scl (by decide) (mv_st (-1) X Y) ok.ns d]; omega).uniq mkn
    rw [e1]
    refine ⟨_, rfl, _, hM Ln, hM Ln, by decide, _, rfl, ?_⟩
    rw [if_pos rfl, eqD_self]
    exact iteF kk
  refine ⟨rfl, rfl, 61, rfl, by decide, by decide +kernel, fun a a0 a1 => ?_⟩
  dsimp only [fzR]
  refine ⟨_, _, rfl, rfl, ?_⟩
  obtain ⟨t, hT⟩ : ∃ t : Int, a - 30 = t := ⟨_, rfl⟩
  rw [hT]
  have ht : -30 ≤ t ∧ t ≤ 30 := by omega
  refine ⟨rfl, rfl, 12, rfl, by decide, by decide +kernel, fun b b0 b1 => ?_⟩
  dsimp only [fzR]
  refine ⟨_, _, rfl, rfl, ?_⟩
  obtain ⟨u, hU⟩ : ∃ u : Int, 1 + b = u := ⟨_, rfl⟩
  rw [hU]
  have hu : 1 ≤ u ∧ u ≤ 12 := by omega
  clear hT hU a0 a1 b0 b1 a b
  refine ⟨_, rfl, _, rfl, _, rfl, rfl, rs, n, t, u, rfl, ok, n1, n2, ht, hu, ?_⟩
  dsimp only [fzR]
  have wt := tlt_rgs ok ht hu
  have nu := mul_le (a := n) (b := u) (A := 1000000) (B := 12) (by omega) (by omega) (by decide)
  have nu1 : 1 ≤ n * u := Int.mul_pos (by omega) (by omega)
  have nu2 : n * u ≤ 12000000 := by omega
  refine ⟨rfl, _, n * u, rfl, wt, nu1, nu2, ?_⟩
  dsimp only [fzR]
  refine pass4 (fun N kk => ?_) ?_
  · refine ⟨_, rfl, rfl, _, n * u, rfl, wt, nu1, nu2, fun L3 mk3 l3 => ?_⟩
    dsimp only [fzR]
    refine ⟨_, rfl, _, rfl, _, rfl, rfl, L, t, u, rfl, lL, fun x hx => ⟨(mb x hx).1, (mb x hx).2.1, (mb x hx).2.2.1, (mb x hx).2.2.2.1⟩, mk_nd mk, ht, hu, fun ks' pm pw => ?_⟩
    dsimp only [fzR]
    obtain ⟨M, eM, mkM⟩ := due_ok ok n1 n2 hu.1 mk pm pw
    rw [eM]
    have e1 : L3 = M := mk3.uniq mkM
    rw [e1]
    refine ⟨_, hM M, hM M, by decide, _, rfl, ?_⟩
    rw [if_pos rfl, eqD_self]
    exact iteF kk
  refine pass4 (fun N kk => ?_) hk
  refine ⟨_, rfl, [.lst (rs.map dF2), .int n], 0, .lst (rs.map dF2), .inl rfl, rfl, rfl, _, rfl, by have := ok.l8; rw [List.length_map]; omega, ?_⟩
  refine compG_map (f := dF2) (h := fun r : List F2 => D.int (r.length : Nat)) (fun r hr k hk => ?_) ?_
  · have e : ((r.map dR).length : Nat) = r.length := List.length_map ..
    refine ⟨_, rfl, _, rfl, ?_⟩
    rw [e]
    exact hk
  refine ⟨rs.map fun r => (r.length : Int), by rw [List.map_map]; rfl, _, _, rfl, rfl, _, rfl, iteD (fun z => ?_) (fun z => kk)⟩
  have tot : (rs.map List.length).sum < 24 := by
    have cast : ∀ qs : RR, (qs.map fun r => (r.length : Int)).sum = (((qs.map List.length).sum : Nat) : Int) := fun qs => by
      induction qs with
      | nil => rfl
      | cons q qs ih => rw [List.map_cons, List.sum_cons, ih, List.map_cons, List.sum_cons]; omega
    have z : (rs.map fun r => (r.length : Int)).sum < 24 := z
    rw [cast] at z
    omega
  refine ⟨_, rfl, rfl, rfl, rs, n, rfl, ok, n1, n2, tot, fun qs wq sq => ?_⟩
  dsimp only [fzR]
  refine ⟨rfl, qs, 3 * n, rfl, wq, by omega, by omega, ?_⟩
  dsimp only [fzR]
  refine ⟨rfl, qs, 3 * n, rfl, wq, by omega, by omega, fun L4 mk4 l4 => ?_⟩
  dsimp only [fzR]
  have e1 : L4 = L := mk4.uniq (mk.times (by omega) (by decide) sq)
  rw [e1]
  refine ⟨_, rfl, _, hM L, hM L, by decide, ?_⟩
  rw [if_neg Bool.false_ne_true, eqD_self]
  exact hk

theorem sc_law : FnScope ["_law_script", "_law_cell_here", "_law_bag_here"] ["_law_script"] (defScope s_law) := ⟨rfl, rfl, rfl, by decide +kernel, rfl, by decide +kernel, by decide +kernel⟩
theorem ok_law {P : Program} {w : World} {K : PySem.W.Frag} {mg : Str → Option Value} {base : Heap} {f : Addr} {fd : FuncData} (B : Blts mg) (F : Fun K "law" "law" s_law f fd) (c_law_cell : Cal P w K mg base "_law_cell" ["_law_script", "_law_k"] 1 (Con K 2 F_cell)) (c_law_bag : Cal P w K mg base "_law_bag" ["_law_cell_here"] 1 (Con K 1 F_bag)) (c_law_right : Cal P w K mg base "_law_right" ["_law_bag_here", "_law_cloth_here"] 6 (Con K 2 F_rightE)) (c_law_cloth : Cal P w K mg base "_law_cloth" ["_law_bag_here"] 4 (Con K 1 F_clothD)) :
    FnOk P w K mg base CX0 7 f fd ["_law_script"] (spLaw K) := by
  refine FnOk.imp (sp := Con K 1 F_law) ?_ (fun vs H Q E h => law_con h)
  refine law_def3 (lv := 6) F sc_law rfl (fun cdv A outer s H E hr => ⟨_, (s_cons (s_for PassesOwn.never rfl (i_list (o_e (o_cat (o_e (o_lst (l_cons (e_call c_law_cell hr (by rfl) (a_val (v3 0) (a_val e_int a_nil))) l_nil))) (o_e (o_slice (v3 0) (p_some e_int) (p_some e_int)))))) (g_name (i := 1) sc_law.nd rfl (Or.inl rfl)) (s_cons (s_setN (i := 2) sc_law.nd rfl (Or.inl rfl) (n_call c_law_bag hr (by rfl) (a_val (v3 1) a_nil))) (s_one (s_if (t_not (t_val (e_call c_law_right hr (by rfl) (a_bag 2 (a_val (e_call c_law_cloth hr (by rfl) (a_bag 2 a_nil)) a_nil))))) (s_one (s_ret e_bl)) s_nil)))) (s_one (s_ret e_bl))), ?_⟩)
  rintro as k hl ⟨ns, rfl, h63, hk⟩
  refine at3 (r := [.val (.scr ns), .no, .no]) rfl ?_
  walk_at "w"
  refine ⟨ns, 0, rfl, by decide, fun z => ?_⟩
  walk_at "w"
  refine ⟨law_len h63, _, rfl, ?_⟩
  refine forR_ints (fun ρ => ∃ v1 v2 : Sl, ρ = [.val (.scr ns), v1, v2]) ⟨_, _, rfl⟩ law_items ?_ ?_
  rotate_left
  · rintro ρ ⟨v1, v2, rfl⟩
    exact hk
  rintro c ρ ⟨v1, v2, rfl⟩ N kk
  refine ⟨_, rfl, rfl, c, rfl, rfl, ?_⟩
  refine ⟨rfl, rfl, rfl, rfl, fun rs n ok n1 n2 => ?_⟩
  dsimp only [fzR]
  exact ⟨rfl, rs, n, rfl, ok, n1, n2, _, rfl, iteF (kk _ ⟨_, _, rfl⟩)⟩

theorem all_mk {l : PySem.W.OpenLaw} {w : World} {K : PySem.W.Frag} {h : Heap} {mg : Str → Option Value} {fa : Addr} (Y : Tab tabs K) (X : K.In h) (G : h.Ns mainGlobals mg) (hfa : mg "law" = some (.ref fa))
    : ∃ fd : FuncData, (∀ (s : Shared) (v : Value), BindsTo s fd ⟨[v], []⟩ [("_law_script", v)]) ∧ ∀ base : Heap, K.In base → base.Ns mainGlobals mg → FnOk l.prog w K mg base CX0 7 fa fd ["_law_script"] (spLaw K) := by
  obtain ⟨⟨x_greatest_divisor, x_ratio, x_plus, x_slid, x_step_to, x_turned, x_sides_of, x_way_of, x_marks, x_law_cell, x_law_bag, x_law_draw, x_law_measure, x_law_low, x_law_spot, x_law_star, x_law_steps, x_law_rings, x_law_cloth, x_law_told, x_law_moved, x_law_tilted, x_law_one_more, x_law_way_tilted, x_law_due, x_law_come_to_nothing, x_law_right, x_law, _⟩, ⟨z_len, z_abs, z_int, z_bool, z_tuple, z_isinstance, z_range, z_all, z_sum, z_list, z_ValueError, z_zip, z_str, z_enumerate, z_set, z_max, z_min, z_sorted, _⟩, ⟨_⟩, ⟨_⟩⟩ := Y
  have g_greatest_divisor := x_greatest_divisor.fnd (ps := ["one", "other"]) X G fun _ _ F => F.binds fun _ _ _ _ _ _ us hl => match us, hl with | [_, _], _ => rfl
  have g_ratio := x_ratio.fnd (ps := ["top", "bottom"]) X G fun _ _ F => F.binds fun _ _ _ _ _ _ us hl => match us, hl with | [_, _], _ => rfl
  have g_plus := x_plus.fnd (ps := ["one", "other"]) X G fun _ _ F => F.binds fun _ _ _ _ _ _ us hl => match us, hl with | [_, _], _ => rfl
  have g_slid := x_slid.fnd (ps := ["p", "step"]) X G fun _ _ F => F.binds fun _ _ _ _ _ _ us hl => match us, hl with | [_, _], _ => rfl
  have g_step_to := x_step_to.fnd (ps := ["p", "q"]) X G fun _ _ F => F.binds fun _ _ _ _ _ _ us hl => match us, hl with | [_, _], _ => rfl
  have g_turned := x_turned.fnd (ps := ["p"]) X G fun _ _ F => F.binds fun _ _ _ _ _ _ us hl => match us, hl with | [_], _ => rfl
  have g_sides_of := x_sides_of.fnd (ps := ["ring"]) X G fun _ _ F => F.binds fun _ _ _ _ _ _ us hl => match us, hl with | [_], _ => rfl
  have g_way_of := x_way_of.fnd (ps := ["step"]) X G fun _ _ F => F.binds fun _ _ _ _ _ _ us hl => match us, hl with | [_], _ => rfl
  have g_marks := x_marks.fnd (ps := ["cloth"]) X G fun _ _ F => F.binds fun _ _ _ _ _ _ us hl => match us, hl with | [_], _ => rfl
  have g_law_cell := x_law_cell.fnd (ps := ["_law_script", "_law_k"]) X G fun _ _ F => F.binds fun _ _ _ _ _ _ us hl => match us, hl with | [_, _], _ => rfl
  have g_law_bag := x_law_bag.fnd (ps := ["_law_cell_here"]) X G fun _ _ F => F.binds fun _ _ _ _ _ _ us hl => match us, hl with | [_], _ => rfl
  have g_law_draw := x_law_draw.fnd (ps := ["_law_bag_here", "_law_many"]) X G fun _ _ F => F.binds fun _ _ _ _ _ _ us hl => match us, hl with | [_, _], _ => rfl
  have g_law_measure := x_law_measure.fnd (ps := ["_law_one", "_law_other"]) X G fun _ _ F => F.binds fun _ _ _ _ _ _ us hl => match us, hl with | [_, _], _ => rfl
  have g_law_low := x_law_low.fnd (ps := ["_law_top", "_law_bottom"]) X G fun _ _ F => F.binds fun _ _ _ _ _ _ us hl => match us, hl with | [_, _], _ => rfl
  have g_law_spot := x_law_spot.fnd (ps := ["_law_x", "_law_y", "_law_bottom"]) X G fun _ _ F => F.binds fun _ _ _ _ _ _ us hl => match us, hl with | [_, _, _], _ => rfl
  have g_law_star := x_law_star.fnd (ps := ["_law_bag_here", "_law_most", "_law_far"]) X G fun _ _ F => F.binds fun _ _ _ _ _ _ us hl => match us, hl with | [_, _, _], _ => rfl
  have g_law_steps := x_law_steps.fnd (ps := ["_law_bag_here", "_law_far"]) X G fun _ _ F => F.binds fun _ _ _ _ _ _ us hl => match us, hl with | [_, _], _ => rfl
  have g_law_rings := x_law_rings.fnd (ps := ["_law_bag_here", "_law_far"]) X G fun _ _ F => F.binds fun _ _ _ _ _ _ us hl => match us, hl with | [_, _], _ => rfl
  have g_law_cloth := x_law_cloth.fnd (ps := ["_law_bag_here"]) X G fun _ _ F => F.binds fun _ _ _ _ _ _ us hl => match us, hl with | [_], _ => rfl
  have g_law_told := x_law_told.fnd (ps := ["_law_cloth_here"]) X G fun _ _ F => F.binds fun _ _ _ _ _ _ us hl => match us, hl with | [_], _ => rfl
  have g_law_moved := x_law_moved.fnd (ps := ["_law_cloth_here", "_law_often", "_law_x", "_law_y"]) X G fun _ _ F => F.binds fun _ _ _ _ _ _ us hl => match us, hl with | [_, _, _, _], _ => rfl
  have g_law_tilted := x_law_tilted.fnd (ps := ["_law_cloth_here", "_law_top", "_law_under_it"]) X G fun _ _ F => F.binds fun _ _ _ _ _ _ us hl => match us, hl with | [_, _, _], _ => rfl
  have g_law_one_more := x_law_one_more.fnd (ps := ["_law_cloth_here", "_law_bag_here"]) X G fun _ _ F => F.binds fun _ _ _ _ _ _ us hl => match us, hl with | [_, _], _ => rfl
  have g_law_way_tilted := x_law_way_tilted.fnd (ps := ["_law_way", "_law_top", "_law_under_it"]) X G fun _ _ F => F.binds fun _ _ _ _ _ _ us hl => match us, hl with | [_, _, _], _ => rfl
  have g_law_due := x_law_due.fnd (ps := ["_law_some", "_law_top", "_law_under_it"]) X G fun _ _ F => F.binds fun _ _ _ _ _ _ us hl => match us, hl with | [_, _, _], _ => rfl
  have g_law_come_to_nothing := x_law_come_to_nothing.fnd (ps := ["_law_some"]) X G fun _ _ F => F.binds fun _ _ _ _ _ _ us hl => match us, hl with | [_], _ => rfl
  have g_law_right := x_law_right.fnd (ps := ["_law_bag_here", "_law_cloth_here"]) X G fun _ _ F => F.binds fun _ _ _ _ _ _ us hl => match us, hl with | [_, _], _ => rfl
  obtain ⟨f0, fd0, m0, F0⟩ := x_law
  have e := hfa.symm.trans (PySem.W.mg_of X G m0)
  cases e
  have B : Blts mg := ⟨PySem.W.mg_none_of X G z_len, PySem.W.mg_none_of X G z_abs, PySem.W.mg_none_of X G z_int, PySem.W.mg_none_of X G z_bool, PySem.W.mg_none_of X G z_tuple, PySem.W.mg_none_of X G z_isinstance, PySem.W.mg_none_of X G z_range, PySem.W.mg_none_of X G z_all, PySem.W.mg_none_of X G z_sum, PySem.W.mg_none_of X G z_list, PySem.W.mg_none_of X G z_ValueError, PySem.W.mg_none_of X G z_zip, PySem.W.mg_none_of X G z_str, PySem.W.mg_none_of X G z_enumerate, PySem.W.mg_none_of X G z_set, PySem.W.mg_none_of X G z_max, PySem.W.mg_none_of X G z_min, PySem.W.mg_none_of X G z_sorted⟩
  refine ⟨fd0, fun s v => ?_, fun base _ _ => ?_⟩
  · obtain ⟨_, _, _, _, _, _, _, _, _, rfl, _⟩ := F0.ex
    exact .of_eq rfl
  have q_law_cell := ok_law_cell (P := l.prog) (w := w) (base := base) B  g_law_cell 
  have q_bagB := ok_bagB (P := l.prog) (w := w) (base := base) B  g_law_bag 
  have q_drawB := ok_drawB (P := l.prog) (w := w) (base := base) B  g_law_draw 
  have q_law_measure := ok_law_measure (P := l.prog) (w := w) (base := base) B  g_law_measure 
  have q_lowT := ok_lowT (P := l.prog) (w := w) (base := base) B  g_law_low q_law_measure
  have q_spotB := ok_spotB (P := l.prog) (w := w) (base := base) B  g_law_spot q_law_measure
  have q_starC := ok_starC (P := l.prog) (w := w) (base := base) B  g_law_star q_drawB
  have q_stepsC := ok_stepsC (P := l.prog) (w := w) (base := base) B  g_law_steps q_drawB
  have q_ringsC := ok_ringsC (P := l.prog) (w := w) (base := base) B  g_law_rings q_drawB q_starC q_stepsC
  have q_clothD := ok_clothD (P := l.prog) (w := w) (base := base) B  g_law_cloth q_drawB q_ringsC
  have q_toldE := ok_toldE (P := l.prog) (w := w) (base := base) B  g_law_told q_spotB
  have q_movedE := ok_movedE (P := l.prog) (w := w) (base := base) B  g_law_moved 
  have q_tiltedE := ok_tiltedE (P := l.prog) (w := w) (base := base) B  g_law_tilted 
  have q_moreE := ok_moreE (P := l.prog) (w := w) (base := base) B  g_law_one_more q_drawB
  have q_wayT := ok_wayT (P := l.prog) (w := w) (base := base) B  g_law_way_tilted q_law_measure
  have q_dueE := ok_dueE (P := l.prog) (w := w) (base := base) B  g_law_due q_wayT q_lowT
  have q_nothE := ok_nothE (P := l.prog) (w := w) (base := base) B  g_law_come_to_nothing 
  have q_greatest_divisor := ok_greatest_divisor (P := l.prog) (w := w) (base := base) B  g_greatest_divisor 
  have q_ratio := ok_ratio (P := l.prog) (w := w) (base := base) B  g_ratio q_greatest_divisor
  have q_plus := ok_plus (P := l.prog) (w := w) (base := base) B  g_plus q_greatest_divisor
  have q_turned := ok_turned (P := l.prog) (w := w) (base := base) B  g_turned 
  have q_slid := ok_slid (P := l.prog) (w := w) (base := base) B  g_slid q_greatest_divisor
  have q_step_to := ok_step_to (P := l.prog) (w := w) (base := base) B  g_step_to q_slid q_turned
  have q_sidesE := ok_sidesE (P := l.prog) (w := w) (base := base) B  g_sides_of 
  have q_way_of := ok_way_of (P := l.prog) (w := w) (base := base) B  g_way_of q_greatest_divisor q_ratio
  have q_marksE := ok_marksE (P := l.prog) (w := w) (base := base) B  g_marks q_sidesE q_way_of q_step_to q_plus
  have q_rightE := ok_rightE (P := l.prog) (w := w) (base := base) B  g_law_right q_marksE q_toldE q_drawB q_movedE q_nothE q_tiltedE q_dueE q_moreE
  exact ok_law B F0 q_law_cell q_bagB q_rightE q_clothD
end Cut
open PySem PySem.W PyProof.Rows
set_option maxRecDepth 100000 in
set_option maxHeartbeats 0 in
theorem PySem.Challenge.cw_slidecut_k21_marks_of_the_same_holds : PySem.Challenge.rw_slidecut_k21_marks_of_the_same.Holds := by
  refine holds_law Cut.said fun said => holds_open (XP := XL PySem.Challenge.pw_slidecut_k21_marks_of_the_same []) (YP := L3.saysH Cut.tabs) Cut.left (L3.ofH Cut.tabs) (L3.keepsH Cut.tabs) (fun s e => xl_of s (Bool.and_eq_true_iff.mp e).1) XL.keeps (by rfl) (by rfl) (by rfl) (fun s e => recFacts_of (Bool.and_eq_true_iff.mp e).2) (by rfl) said (by decide +kernel) ⟨rfl, rfl, rfl, rfl, rfl, by decide +kernel⟩ ?hw ?hc
  case hw => w_witness2
  case hc => exact L3.walkH (k := 7) rfl rfl ⟨rfl, by decide, by decide⟩ fun w K mg fa h Y X G hmg => Cut.all_mk Y X G hmg
#print axioms PySem.Challenge.cw_slidecut_k21_marks_of_the_same_holds