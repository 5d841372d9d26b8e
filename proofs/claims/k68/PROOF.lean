import PyProof.Rows.All
import Wide.All
import OpenK.AllK
import Wide.FinOn
import Lean
import PyProof.EqAt
import PyProof.EqKinds
import PyProof.TupleCall
import PyProof.AttrMissHeap
import PyProof.Cells
import PyProof.AutoListH
import PyProof.AutoSeq1
import PyProof.SeqI3
import PyProof.Rows.SortWalk
import KE.KSortTup
import PyProof.DictItemsLoops
import PyProof.Rows.Range3
import PyProof.DictRoadsH
import PyProof.DictKinds
import PyProof.DictIter
import PyProof.DictWalks
import PyProof.DictValues
import PyProof.FactsAll.dict_values
import PyProof.FactsAll.dict_valueiterator
import PyProof.NeKinds
import PyProof.ExcBaseAll.ValueError
import PyProof.ZipIter
import PyProof.ListCopy
import PyProof.CollectWalk
import KE.KIntText
import KE.KxPart
import PyProof.SliceStr2
import PyProof.Rows.StrFirst
import PyProof.StrLawsFirst
import KE.KxText
import PyProof.StrLawsIn
import PyProof.StrBlockI
import PyProof.Rows.StrNews
import PyProof.EnumMake
import PyProof.EnumFor
import PyProof.EnumStmt
import PyProof.Rows.SetFrom
import PyProof.MinMaxWalk
import PyProof.WalkInts
import PyProof.FactsAll.tuple_1
import PyProof.FactsAll.tuple_2
import PySem.Challenge.RW_slidecut_k68_texts_of_no_point
set_option Elab.async false
set_option linter.all false
set_option maxRecDepth 100000
/-! THE HAND LAYER, for ints, bools, texts, own classes, LISTS and tuples (index, slices, in, append, pop ..), calls, loops. Paste it whole ahead of your own text; what your proof does not reach may be deleted. -/
namespace L2
open PySem PySem.Spec PyProof.Rows

/-- a key: an int or a str -/
abbrev Key := Sum Int Str
def keyIs : Key → Value → Bool
  | .inl k, v => Value.isInt k v
  | .inr x, v => Value.isStrOf x v
def keyH (w : World) : Key → Int
  | .inl k => hashInt k
  | .inr x => hashStr w x
theorem keyIs_shape : ∀ {k : Key} {v : Value}, keyIs k v = true → (∃ i t, k = Sum.inl i ∧ v = Value.int i t) ∨ (∃ x t, k = Sum.inr x ∧ v = Value.str x t)
  | .inl i, v, h => by
    obtain ⟨t, e⟩ := Value.isInt_shape (k := i) (v := v) h
    exact .inl ⟨i, t, rfl, e⟩
  | .inr x, v, h => by
    obtain ⟨t, e⟩ := Value.isStrOf_shape (x := x) (v := v) h
    exact .inr ⟨x, t, rfl, e⟩
theorem key_ll (a b : Int) : decide ((Sum.inl a : Key) = Sum.inl b) = (a == b) := by
  by_cases e : a = b
  · subst e; simp
  · have h : ¬ (Sum.inl a : Key) = Sum.inl b := fun q => e (Sum.inl.inj q)
    rw [decide_eq_false h]
    exact (beq_eq_false_iff_ne.mpr e).symm
theorem key_rr (a b : Str) : decide ((Sum.inr a : Key) = Sum.inr b) = decide (a = b) := by
  by_cases e : a = b
  · subst e; simp
  · have h : ¬ (Sum.inr a : Key) = Sum.inr b := fun q => e (Sum.inr.inj q)
    rw [decide_eq_false h, decide_eq_false e]
theorem key_lr (a : Int) (b : Str) : decide ((Sum.inl a : Key) = Sum.inr b) = false := decide_eq_false (fun q => nomatch q)
theorem key_rl (a : Str) (b : Int) : decide ((Sum.inr a : Key) = Sum.inl b) = false := decide_eq_false (fun q => nomatch q)

def mixKind (prog : Program) (w : World) : PySem.KeyKind prog w Key where
  is := keyIs
  hash := keyH w
  inj := fun v a b ha hb => by
    rcases keyIs_shape ha with ⟨i, t, rfl, rfl⟩ | ⟨x, t, rfl, rfl⟩
    · rcases keyIs_shape hb with ⟨j, u, rfl, e⟩ | ⟨y, u, rfl, e⟩
      · injection e with e1 _; rw [e1]
      · exact nomatch e
    · rcases keyIs_shape hb with ⟨j, u, rfl, e⟩ | ⟨y, u, rfl, e⟩
      · exact nomatch e
      · injection e with e1 _; rw [e1]
  byValue := fun k v h => by
    rcases keyIs_shape h with ⟨i, t, rfl, rfl⟩ | ⟨x, t, rfl, rfl⟩ <;> rfl
  pyHash := fun hv h => by
    rcases keyIs_shape hv with ⟨i, t, rfl, rfl⟩ | ⟨x, t, rfl, rfl⟩
    · exact wpAny_pyHash_int h
    · exact wpAny_pyHash_str h
  eqBool := fun hu hv h => by
    rcases keyIs_shape hu with ⟨i, t, rfl, rfl⟩ | ⟨x, t, rfl, rfl⟩
    · rcases keyIs_shape hv with ⟨j, u, rfl, rfl⟩ | ⟨y, u, rfl, rfl⟩
      · rw [key_ll] at h; exact wpAny_eqBool_int h
      · rw [key_lr] at h; exact SeqAt.EqAt.int_str i t y u _ _ _ _ h
    · rcases keyIs_shape hv with ⟨j, u, rfl, rfl⟩ | ⟨y, u, rfl, rfl⟩
      · rw [key_rl] at h; exact SeqAt.EqAt.str_int x t j u _ _ _ _ h
      · rw [key_rr] at h; exact wpAny_eqBool_str h
  «strs» := fun k x t v h => by
    rcases keyIs_shape h with ⟨i, u, rfl, e⟩ | ⟨y, u, rfl, e⟩
    · exact nomatch e
    · injection e with e1 _
      subst e1
      cases v <;> rfl

end L2

namespace L2
open PySem PySem.Spec PyProof.Rows

/-- a value, without the heap -/
inductive V where
  | non | bl (b : Bool) | int (i : Int) | str (x : Str) | byt (b : Array UInt8) | flt (b : UInt64) | ref (a : Addr) | ty (n : String)
  deriving DecidableEq

def RelV : V → Value → Prop
  | .non, u => u = Value.none
  | .bl b, u => u = Value.bool b
  | .int i, u => ∃ t, u = Value.int i t
  | .str x, u => ∃ t, u = Value.str x t
  | .byt b, u => ∃ t, u = Value.bytes b t
  | .flt b, u => ∃ t, u = Value.float b t
  | .ref a, u => u = Value.ref a
  | .ty n, u => u = Value.type n

abbrev Vals : List V → List Value → Prop := Paired RelV
theorem Vals.length {xs : List V} {us : List Value} (r : Vals xs us) : xs.length = us.length := Paired.length r
theorem Vals.get : ∀ {xs : List V} {us : List Value} {i : Nat} {x : V}, Vals xs us → xs[i]? = some x → ∃ u, us[i]? = some u ∧ RelV x u
  | _, _, _, _, .nil, e => by simp at e
  | _, _, 0, _, .cons r _, e => by simp at e; subst e; exact ⟨_, rfl, r⟩
  | _, _, i + 1, x, .cons _ t, e => by
    obtain ⟨u, h1, h2⟩ := Vals.get (i := i) (x := x) t (by simpa using e)
    exact ⟨u, by simpa using h1, h2⟩
theorem Vals.set {x : V} {u : Value} (r : RelV x u) : ∀ {xs : List V} {us : List Value} (i : Nat), Vals xs us → Vals (xs.set i x) (us.set i u)
  | _, _, _, .nil => .nil
  | _, _, 0, .cons _ t => .cons r t
  | _, _, i + 1, .cons q t => .cons q (Vals.set r i t)
theorem Vals.append : ∀ {xs ys : List V} {us ws : List Value}, Vals xs us → Vals ys ws → Vals (xs ++ ys) (us ++ ws)
  | _, _, _, _, .nil, s => s
  | _, _, _, _, .cons r t, s => .cons r (Vals.append t s)
theorem Vals.take : ∀ {xs : List V} {us : List Value} (n : Nat), Vals xs us → Vals (xs.take n) (us.take n)
  | _, _, 0, _ => .nil
  | _, _, _ + 1, .nil => .nil
  | _, _, n + 1, .cons r t => .cons r (Vals.take n t)
theorem Vals.drop : ∀ {xs : List V} {us : List Value} (n : Nat), Vals xs us → Vals (xs.drop n) (us.drop n)
  | _, _, 0, r => r
  | _, _, _ + 1, .nil => .nil
  | _, _, n + 1, .cons _ t => Vals.drop n t
def RelO : Option V → Option Value → Prop
  | some v, some u => RelV v u
  | none, none => True
  | _, _ => False
def KV {κ : Type} : List (κ × V) → List (κ × Value) → Prop := Paired fun (p : κ × V) (q : κ × Value) => p.1 = q.1 ∧ RelV p.2 q.2

/-- a key of a dict (00_mix): an int or a text -/
def kV : Key → V
  | .inl i => .int i
  | .inr x => .str x

/-- what stands at a tracked address -/
inductive HO where
  /-- a list -/
  | lst (xs : List V)
  /-- a tuple (never changes) -/
  | tup (xs : List V)
  /-- a dict whose keys are ints and texts; one whose keys are tuples of ints and texts (the empty one is both) -/
  | dK (kvs : List (Key × V)) | dT (kvs : List (List Key × V))
  /-- a set of ints: its members, its size -/
  | set (S : Int → Bool) (n : Nat)
  /-- an instance of the class at C, its dict at dx, its attributes -/
  | ins (C dx : Addr) (fs : List (Str × V))
  /-- the dict of the instance at x -/
  | own (x : Addr)
  /-- the dict of an exception -/
  | xd (fs : List (Str × V))
  /-- a bound method, f of x -/
  | met (f x : Addr)
  /-- a range object lo, lo + 1, .. below hi -/
  | rng (lo hi : Int)
  /-- a thing that is known to the object (the script; a dict while a loop walks it): read, never written while it is so -/
  | frz (o : Obj) (u : HO)
  /-- a code object's table -/
  | tbl (ps : Array Value)
  /-- any other thing, by what is true of its one object (a def of one's own: SetO a S n := HO.ext fun h => ..) -/
  | ext (φ : Heap → Prop)

abbrev Hp := Addr → Option HO
def upd (H : Hp) (a : Addr) (o : HO) : Hp := fun b => if b = a then some o else H b
theorem upd_same {H : Hp} {a : Addr} {o : HO} : upd H a o a = some o := by unfold upd; rw [if_pos rfl]
theorem upd_ne {H : Hp} {a b : Addr} {o : HO} (h : b ≠ a) : upd H a o b = H b := by unfold upd; rw [if_neg h]
theorem ne_of_none {H : Hp} {a b : Addr} {o : HO} (h : H a = some o) (h' : H b = none) : a ≠ b := by
  intro e; subst e; rw [h] at h'; cases h'

/-- a table in good order: what it names stands, with the name that the label tells -/
def TabOk (H : Hp) (h : Heap) (a : Addr) (ps : Array Value) : Prop := ∃ qs : Array Value, h.get? a = some { cls := .none, data := .fields qs } ∧ TriplesOk qs.toList ∧
  ∀ pos cv, codeAmong pos qs.toList = some cv → ∃ c oc u vs q t t', cv = .ref c ∧ H c = some (.frz oc u) ∧ oc.data = .fields vs ∧ vs[1]? = some (.str q t) ∧ ps[0]? = some (.str q t')
/-- the tables that may grow: marks in the known part, behind the main names' own place -/
def tabsK (K : PySem.W.Frag) : List (Addr × Str) := K.filterMap fun p => match p with
  | (b, ⟨.none, _, .fields vs, _⟩) => (match vs.toList with | [.ref P, .str q _] => if b = mainGlobals then some (P, q) else none | _ => none)
  | _ => none
def TabsIn (K : PySem.W.Frag) (H : Hp) : Prop := ∀ p ∈ tabsK K, ∃ ps t, H p.1 = some (.tbl ps) ∧ ps[0]? = some (.str p.2 t)
section
variable (P : Program) (w : World)
def ObjOk (H : Hp) (h : Heap) (a : Addr) : HO → Prop
  | .lst xs => xs.length ≤ sizeLine ∧ ∃ (its : List Value) (n : Nat), Vals xs its ∧ h.get? a = some { cls := .type "list", data := .seq its.toArray n }
  | .tup xs => xs.length ≤ sizeLine ∧ ∃ its : List Value, Vals xs its ∧ IsTup h a its.toArray
  | .dK kvs => kvs.length ≤ sizeLine ∧ (a == sysModules) = false ∧ ∃ vs, KV kvs vs ∧ h.DictOf (mixKind P w) a vs
  | .dT kvs => kvs.length ≤ sizeLine ∧ (a == sysModules) = false ∧ ∃ xs : List (List Key × Addr × Value),
      Paired (fun (p : List Key × V) (q : List Key × Addr × Value) => p.1 = q.1 ∧ H q.2.1 = some (.tup (p.1.map kV)) ∧ RelV p.2 q.2.2) kvs xs ∧
      ∃ o es ep, h.get? a = some o ∧ o.ExactDict ∧ o.data = .dict es ep ∧ es.toList = xs.map (entryOfKey (tupleKind (mixKind P w))) ∧ (xs.map (·.1)).Nodup
  | .set S n => h.SetOf (intKind P w) a S n
  | .ins C dx fs => H dx = some (.own a) ∧ fs.length ≤ 1000 ∧ dx ≠ a ∧ h.get? a = some (PySem.W.instObj C dx) ∧
      ∃ mA, h.Ns1 dx mA ∧ (∀ f, RelO (fs.lookup f) (mA f)) ∧ PySem.Within mA (fs.map (·.1))
  | .own _ => ∃ o, h.get? a = some o
  | .xd fs => ∃ mA, h.Ns1 a mA ∧ ∀ f, RelO (fs.lookup f) (mA f)
  | .rng lo hi => ∃ t u v, h.get? a = some { cls := .type "range", data := .fields #[.int lo t, .int hi u, .int 1 v] }
  | .frz o u => h.get? a = some o ∧ ObjOk H h a u
  | .tbl ps => TabOk H h a ps
  | .met f x => h.get? a = some (PySem.W.methodObj (.ref f) (.ref x))
  | .ext φ => φ h ∧ (∃ o, h.get? a = some o) ∧ ∀ h1 h2 : Heap, φ h1 → (∀ o, h1.get? a = some o → h2.get? a = some o) → φ h2
/-- the abstract heap is held -/
def HOk (H : Hp) (h : Heap) : Prop := ∀ a o, H a = some o → ObjOk P w H h a o
end

section
variable {P : Program} {w : World} {H H' : Hp} {h h' : Heap} {a : Addr} {o : HO}
theorem ObjOk.lt (x : ObjOk P w H h a o) : a < h.objs.size := by
  cases o with
  | lst xs => obtain ⟨_, _, _, _, e⟩ := x; exact Heap.lt_size e
  | tup xs => obtain ⟨_, _, _, p⟩ := x; exact p.lt
  | dK kvs => obtain ⟨_, _, _, _, o, _, _, e, _⟩ := x; exact Heap.lt_size e
  | dT kvs => obtain ⟨_, _, _, _, o, _, _, e, _⟩ := x; exact Heap.lt_size e
  | set S n => obtain ⟨o, _, _, _, e, _⟩ := x; exact Heap.lt_size e
  | ins C dx fs => obtain ⟨_, _, _, e, _⟩ := x; exact Heap.lt_size e
  | own y => obtain ⟨_, e⟩ := x; exact Heap.lt_size e
  | xd fs => obtain ⟨_, ⟨_, _, _, e, _⟩, _⟩ := x; exact Heap.lt_size e
  | rng lo hi => obtain ⟨_, _, _, e⟩ := x; exact Heap.lt_size e
  | frz ob u => obtain ⟨e, _⟩ := x; exact Heap.lt_size e
  | tbl ps => obtain ⟨_, e, _⟩ := x; exact Heap.lt_size e
  | met f y => exact Heap.lt_size (show h.get? a = some _ from x)
  | ext φ => obtain ⟨_, ⟨_, e⟩, _⟩ := x; exact Heap.lt_size e
theorem Paired.mapP {α β : Type} {F G : α → β → Prop} : ∀ {l₁ : List α} {l₂ : List β}, Paired F l₁ l₂ → (∀ a b, F a b → G a b) → Paired G l₁ l₂
  | _, _, .nil, _ => .nil
  | _, _, .cons r t, f => .cons (f _ _ r) (Paired.mapP t f)
/-- what an object's description leans on: its own object, its own dict, the tuples -/
theorem ObjOk.stay (x : ObjOk P w H h a o) (k : ∀ b u, (b = a ∨ H b = some (.own a)) → h.get? b = some u → h'.get? b = some u)
    (ho : ∀ b, H b = some (.own a) → H' b = some (.own a)) (ht : ∀ b xs, H b = some (.tup xs) → H' b = some (.tup xs)) (hf : ∀ b ob u, H b = some (.frz ob u) → H' b = some (.frz ob u)) : ObjOk P w H' h' a o := by
  induction o with
  | lst xs => obtain ⟨z, its, n, r, e⟩ := x; exact ⟨z, its, n, r, k _ _ (.inl rfl) e⟩
  | tup xs => obtain ⟨z, its, r, ob, e, c⟩ := x; exact ⟨z, its, r, ob, k _ _ (.inl rfl) e, c⟩
  | dK kvs => obtain ⟨z, y, vs, r, ob, es, ep, e, c⟩ := x; exact ⟨z, y, vs, r, ob, es, ep, k _ _ (.inl rfl) e, c⟩
  | dT kvs =>
    obtain ⟨z, y, xs, r, ob, es, ep, e, c⟩ := x
    exact ⟨z, y, xs, Paired.mapP r fun p q z => ⟨z.1, ht _ _ z.2.1, z.2.2⟩, ob, es, ep, k _ _ (.inl rfl) e, c⟩
  | set S n => obtain ⟨ob, es, ep, t, e, c⟩ := x; exact ⟨ob, es, ep, t, k _ _ (.inl rfl) e, c⟩
  | ins C dx fs =>
    obtain ⟨d, z, ne, e, mA, ⟨od, es, ep, e2, c⟩, r⟩ := x
    exact ⟨ho _ d, z, ne, k _ _ (.inl rfl) e, mA, ⟨od, es, ep, k _ _ (.inr d) e2, c⟩, r⟩
  | own y => obtain ⟨ob, e⟩ := x; exact ⟨ob, k _ _ (.inl rfl) e⟩
  | xd fs => obtain ⟨mA, ⟨od, es, ep, e, c⟩, r⟩ := x; exact ⟨mA, ⟨od, es, ep, k _ _ (.inl rfl) e, c⟩, r⟩
  | rng lo hi => obtain ⟨t, u, v, e⟩ := x; exact ⟨t, u, v, k _ _ (.inl rfl) e⟩
  | frz ob u ih => obtain ⟨e, q⟩ := x; exact ⟨k _ _ (.inl rfl) e, ih q⟩
  | tbl ps =>
    obtain ⟨qs, e, tr, g⟩ := x
    refine ⟨qs, k _ _ (.inl rfl) e, tr, fun pos cv hc => ?_⟩
    obtain ⟨c, oc, u, vs, q, t, t', e1, e2, e3⟩ := g pos cv hc
    exact ⟨c, oc, u, vs, q, t, t', e1, hf _ _ _ e2, e3⟩
  | met f y =>
    have e : h.get? a = some (PySem.W.methodObj (.ref f) (.ref y)) := x
    show h'.get? a = some (PySem.W.methodObj (.ref f) (.ref y))
    exact k a _ (.inl rfl) e
  | ext φ => obtain ⟨p, ⟨o, e⟩, st⟩ := x; exact ⟨st _ _ p fun o q => k _ _ (.inl rfl) q, ⟨o, k _ _ (.inl rfl) e⟩, st⟩
theorem HOk.lt (x : HOk P w H h) (e : H a = some o) : a < h.objs.size := (x a o e).lt
theorem HOk.fresh (x : HOk P w H h) (e : h.objs.size ≤ a) : H a = none := by
  cases q : H a with
  | none => rfl
  | some u => exact absurd (Nat.lt_of_lt_of_le (x.lt q) e) (Nat.lt_irrefl _)
/-- every object of the heap is kept -/
theorem HOk.kept (x : HOk P w H h) (k : ∀ b u, h.get? b = some u → h'.get? b = some u) : HOk P w H h' := fun a o e =>
  (x a o e).stay (fun b u _ q => k b u q) (fun _ q => q) (fun _ _ q => q) fun _ _ _ q => q
/-- a new object is laid and tracked -/
theorem HOk.laid (x : HOk P w H h) (k : ∀ b u, h.get? b = some u → h'.get? b = some u) (hp : h.objs.size ≤ a) (new : ObjOk P w (upd H a o) h' a o) : HOk P w (upd H a o) h' := fun b u e => by
  have hn := x.fresh hp
  by_cases hb : b = a
  · subst hb; rw [upd_same] at e; cases e; exact new
  · rw [upd_ne hb] at e
    exact (x b u e).stay (fun c v _ q => k c v q) (fun c q => by rw [upd_ne (ne_of_none q hn)]; exact q) (fun c xs q => by rw [upd_ne (ne_of_none q hn)]; exact q) fun c ob u q => by rw [upd_ne (ne_of_none q hn)]; exact q
end

/-- what may be read as u: it is u, or a known u -/
def Rd (H : Hp) (a : Addr) (u : HO) : Prop := H a = some u ∨ ∃ o, H a = some (.frz o u)
theorem Rd.ok {P : Program} {w : World} {H : Hp} {h : Heap} {a : Addr} {u : HO} (r : Rd H a u) (x : HOk P w H h) : ObjOk P w H h a u := by
  rcases r with r | ⟨o, r⟩
  · exact x a u r
  · obtain ⟨_, q⟩ := x a _ r
    exact q
/-- what may be written -/
def Mut : Option HO → Prop
  | some (.lst _) => True
  | some (.dK _) => True
  | some (.dT _) => True
  | some (.set _ _) => True
  | some (.ins _ _ _) => True
  | some (.ext _) => True
  | _ => False
section
variable {P : Program} {w : World} {H : Hp} {h h' : Heap} {x e : Addr} {o' : HO}
/-- the object at e is changed: x itself, or the dict of the instance x -/
theorem HOk.write (ok : HOk P w H h) (mu : Mut (H x)) (he : e = x ∨ H e = some (.own x)) (k : ∀ b u, b ≠ e → h.get? b = some u → h'.get? b = some u) (heo : ∃ u, h'.get? e = some u)
    (new : ObjOk P w (upd H x o') h' x o') : HOk P w (upd H x o') h' := fun b u q => by
  have nown : ∀ c y, H c = some (.own y) → c ≠ x := fun c y r z => by subst z; rw [r] at mu; exact mu
  have ntup : ∀ c xs, H c = some (.tup xs) → c ≠ x := fun c xs r z => by subst z; rw [r] at mu; exact mu
  have nfrz : ∀ c ob u, H c = some (.frz ob u) → c ≠ x := fun c ob u r z => by subst z; rw [r] at mu; exact mu
  by_cases hb : b = x
  · subst hb; rw [upd_same] at q; cases q; exact new
  · rw [upd_ne hb] at q
    by_cases hbe : b = e
    · have q' : H b = some (.own x) := by
        rcases he with z | z
        · exact absurd (hbe.trans z) hb
        · rw [hbe]; exact z
      rw [q] at q'; cases q'
      obtain ⟨v, hv⟩ := heo
      exact ⟨v, by rw [hbe]; exact hv⟩
    · refine (ok b u q).stay (fun c v hc r => k c v ?_ r) (fun c r => by rw [upd_ne (nown c b r)]; exact r) (fun c xs r => by rw [upd_ne (ntup c xs r)]; exact r) fun c ob u r => by rw [upd_ne (nfrz c ob u r)]; exact r
      rcases hc with rfl | hc
      · exact hbe
      · rintro rfl
        rcases he with z | z
        · exact nown c b hc z
        · rw [hc] at z; cases z; exact hb rfl
end

/-! ### kept unless tracked; of the frames at fs (the callers') the slots may change (an exception that passes writes there); of the records at ex (iterators) nothing is said -/
structure Un (fs ex : List Addr) (H H' : Hp) (h h' : Heap) : Prop where
  keep : ∀ b o, h.get? b = some o → H b = none → b ∉ fs → b ∉ ex → h'.get? b = some o
  slot : ∀ b o, h.get? b = some o → H b = none → b ∈ fs → b ∉ ex → ∃ sl, h'.get? b = some { o with slots := sl }
  free : ∀ b o, h.get? b = some o → H b = none → b ∉ ex → H' b = none
  there : ∀ b o, h.get? b = some o → b ∉ ex → ∃ o', h'.get? b = some o'
  tups : ∀ b xs, H b = some (.tup xs) → H' b = some (.tup xs)
  frzs : ∀ b o u, H b = some (.frz o u) → H' b = some (.frz o u)
  tbls : ∀ b ps, H b = some (.tbl ps) → ∃ more, H' b = some (.tbl (ps ++ more))
section
variable {fs fs' ex ex' : List Addr} {H H1 H2 : Hp} {h h1 h2 h' : Heap} {a x e : Addr} {o : HO}
theorem Un.any (u : Un fs ex H H1 h h1) {b : Addr} {ob : Obj} (q : h.get? b = some ob) (n : H b = none) (hx : b ∉ ex) : ∃ sl, h1.get? b = some { ob with slots := sl } := by
  by_cases hb : b ∈ fs
  · exact u.slot b ob q n hb hx
  · exact ⟨ob.slots, u.keep b ob q n hb hx⟩
theorem Un.trans (a : Un fs ex H H1 h h1) (b : Un fs ex H1 H2 h1 h2) : Un fs ex H H2 h h2 where
  keep := fun c ob q n hc hx => b.keep c ob (a.keep c ob q n hc hx) (a.free c ob q n hx) hc hx
  slot := fun c ob q n hc hx => by
    obtain ⟨sl, e1⟩ := a.slot c ob q n hc hx
    obtain ⟨sl', e2⟩ := b.slot c _ e1 (a.free c ob q n hx) hc hx
    exact ⟨sl', e2⟩
  free := fun c ob q n hx => by
    obtain ⟨o', e1⟩ := a.there c ob q hx
    exact b.free c o' e1 (a.free c ob q n hx) hx
  there := fun c ob q hx => by
    obtain ⟨o', e1⟩ := a.there c ob q hx
    exact b.there c o' e1 hx
  tups := fun c xs q => b.tups c xs (a.tups c xs q)
  frzs := fun c ob xs q => b.frzs c ob xs (a.frzs c ob xs q)
  tbls := fun c ps q => by
    obtain ⟨m1, e1⟩ := a.tbls c ps q
    obtain ⟨m2, e2⟩ := b.tbls c _ e1
    exact ⟨m1 ++ m2, by rw [e2, Array.append_assoc]⟩
theorem Un.kept (k : ∀ b u, h.get? b = some u → h'.get? b = some u) : Un fs ex H H h h' :=
  ⟨fun b ob q _ _ _ => k b ob q, fun b ob q _ _ _ => ⟨ob.slots, k b ob q⟩, fun _ _ _ n _ => n, fun b ob q _ => ⟨ob, k b ob q⟩, fun _ _ q => q, fun _ _ _ q => q, fun _ ps q => ⟨#[], by rw [q]; simp⟩⟩
theorem Un.refl : Un fs ex H H h h := Un.kept fun _ _ q => q
theorem Un.laid (k : ∀ b u, h.get? b = some u → h'.get? b = some u) (hp : h.objs.size ≤ a) (hn : H a = none) : Un fs ex H (upd H a o) h h' where
  keep := fun b u q _ _ _ => k b u q
  slot := fun b u q _ _ _ => ⟨u.slots, k b u q⟩
  free := fun b u q n _ => by rw [upd_ne (Nat.ne_of_lt (Nat.lt_of_lt_of_le (Heap.lt_size q) hp))]; exact n
  there := fun b u q _ => ⟨u, k b u q⟩
  tups := fun b xs q => by rw [upd_ne (ne_of_none q hn)]; exact q
  frzs := fun b u xs q => by rw [upd_ne (ne_of_none q hn)]; exact q
  tbls := fun b ps q => ⟨#[], by rw [upd_ne (ne_of_none q hn), q]; simp⟩
theorem Un.write (mu : Mut (H x)) (he : e = x ∨ H e = some (.own x)) (k : ∀ b u, b ≠ e → h.get? b = some u → h'.get? b = some u) (heo : ∃ u, h'.get? e = some u) : Un fs ex H (upd H x o) h h' := by
  have hx : ∀ b, H b = none → b ≠ x := fun b n z => by subst z; rw [n] at mu; exact mu
  have hb : ∀ b, H b = none → b ≠ e := fun b n z => by
    subst z
    rcases he with r | r
    · exact hx b n r
    · rw [n] at r; cases r
  have hm : ∀ b u, H b = some u → ¬ Mut (some u) → b ≠ x := fun b u q nm z => by subst z; rw [q] at mu; exact nm mu
  refine ⟨fun b u q n _ _ => k b u (hb b n) q, fun b u q n _ _ => ⟨u.slots, k b u (hb b n) q⟩, fun b u q n _ => by rw [upd_ne (hx b n)]; exact n, fun b u q _ => ?_,
    fun b xs q => by rw [upd_ne (hm b _ q fun z => z)]; exact q, fun b u xs q => by rw [upd_ne (hm b _ q fun z => z)]; exact q, fun b ps q => ⟨#[], by rw [upd_ne (hm b _ q fun z => z), q]; simp⟩⟩
  by_cases hbe : b = e
  · subst hbe; exact heo
  · exact ⟨u, k b u hbe q⟩
theorem Un.mono (u : Un fs ex H H1 h h1) (hs : ∀ b ∈ fs, b ∈ fs') (hx : ∀ b ∈ ex, b ∈ ex') : Un fs' ex' H H1 h h1 :=
  ⟨fun b ob q n hb he => u.keep b ob q n (fun z => hb (hs b z)) fun z => he (hx b z), fun _ _ q n _ he => u.any q n fun z => he (hx _ z), fun b ob q n he => u.free b ob q n fun z => he (hx b z), fun b ob q he => u.there b ob q fun z => he (hx b z), u.tups, u.frzs, u.tbls⟩
end

/-! ### the heap without what is tracked -/
def trk (h : Heap) (H : Hp) : List Addr := (List.range h.objs.size).filter fun a => (H a).isSome
def hidT (h : Heap) (H : Hp) : Heap := PySem.W.hideAll h (trk h H)
theorem hidT_size (h : Heap) (H : Hp) : (hidT h H).objs.size = h.objs.size := PySem.W.hideAll_size _ _
theorem hidT_get {h : Heap} {H : Hp} {b : Addr} {o : Obj} (e : h.get? b = some o) (n : H b = none) : (hidT h H).get? b = some o :=
  PySem.W.hideAll_get _ e fun hm => by
    have q : (H b).isSome = true := (List.mem_filter.mp hm).2
    rw [n] at q; simp at q
theorem of_hidT {h : Heap} {H : Hp} {b : Addr} {o : Obj} (e : (hidT h H).get? b = some o) : h.get? b = some o ∧ H b = none := by
  have e' : h.get? b = some o := PySem.W.of_hideAll (trk h H) e
  refine ⟨e', ?_⟩
  cases q : H b with
  | none => rfl
  | some x =>
    have hm : b ∈ trk h H := List.mem_filter.mpr ⟨List.mem_range.mpr (Heap.lt_size e'), by simp [q]⟩
    have z : (hidT h H).get? b = none := PySem.W.hideAll_none (trk h H) hm
    rw [z] at e; cases e

end L2

namespace L2
open PySem PySem.Spec PyProof.Rows

/-- the module's facts, over the base: the heap at the law's entry without what is tracked there -/
structure Mod (K : PySem.W.Frag) (mg : Str → Option Value) (base : Heap) : Prop where
  kin : K.In base
  glob : base.Ns mainGlobals mg
  blt : ∃ mb, base.Ns builtinsNs mb ∧ ∀ x : Str, x ≠ "__name__" → mb x = bootBuiltins x
  nolimit : base.NoLimit

/-- the context: a def's body (or a comprehension's block) running. base: fixed through the whole law; s₀, H₀: the entry; outer: the frames whose slots others may change (a def's callers); stack: all frames that run;
   ex: iterators that were made ahead of the entry and are walked here (a comprehension's); fn: the names whose cells were made at the entry (a def: all; a comprehension's block: its own); calm: not within an except suite; pn: pins that every state bears; xe: what is wanted of an exception that leaves the code -/
structure Cx where
  prog : Program
  w : World
  K : PySem.W.Frag
  mg : Str → Option Value
  base : Heap
  A : Around
  N : List Str
  s₀ : Shared
  H₀ : Hp
  env : Env
  outer : List Env
  stack : List Env
  ex : List Addr
  fn : Str → Bool
  calm : Bool
  pn : List (Addr × Obj)
  xe : Value → Shared → Prop
/-- the callers' frames -/
def frs (l : List Env) : List Addr := l.filterMap (·.frame)
abbrev Cx.fs (X : Cx) : List Addr := frs X.outer

def Vis (sc : Scope) (x : Str) : Prop := sc.names.lookup x = some .local ∨ sc.names.lookup x = some .cell ∨ sc.names.lookup x = some .free
def Loc (sc : Scope) (x : Str) : Prop := sc.names.lookup x = some .local ∨ sc.names.lookup x = some .cell
def Look (env : Env) (h : Heap) (m : Str → Option Value) (x : Str) (u : Value) : Prop :=
  (env.kindOf x = some .local ∧ m x = some u) ∨ ((env.kindOf x = some .cell ∨ env.kindOf x = some .free) ∧ ∃ c, env.cells.lookup x = some c ∧ h.IsCell c (some u))

structure Cx.Ok (X : Cx) : Prop where
  mod : Mod X.K X.mg X.base
  kind : X.env.scope.kind = .function
  glob : X.env.globals = mainGlobals
  blt : X.env.builtins = builtinsNs
  above : X.s₀.heap.objs.size ≤ X.env.locals
  inj : ∀ x y c, X.env.cells.lookup x = some c → X.env.cells.lookup y = some c → x = y
  has : ∀ x, (X.env.kindOf x = some .cell ∨ X.env.kindOf x = some .free) → ∃ c, X.env.cells.lookup x = some c
  cab : ∀ x c, X.fn x = true → X.env.cells.lookup x = some c → X.s₀.heap.objs.size ≤ c
  hd : X.calm = true → X.A.handled = none
  frames : X.A.frames = some X.stack
  stk : X.stack = X.outer ∨ (X.stack = X.env :: X.outer ∧ X.env.frame = some X.env.locals)
  exf : ∀ b ∈ X.ex, b ≠ X.env.locals ∧ ∀ x c, X.env.cells.lookup x = some c → c ≠ b
  bs : ∀ b o, X.base.get? b = some o → X.s₀.heap.get? b = some o ∧ X.H₀ b = none
  bsz : X.base.objs.size ≤ X.s₀.heap.objs.size
  noex : ∀ b o, X.base.get? b = some o → b ∉ X.ex
  exfs : ∀ b ∈ X.ex, b ∉ X.fs
  funs : X.s₀.heap.FunFrames X.base X.outer
  frf : ∀ b ∈ X.fs, X.H₀ b = none
  tab : TabsIn X.K X.H₀

structure Inv (X : Cx) (pins : List (Addr × Obj)) (σ : List (Option V)) (H : Hp) (s : Shared) : Prop where
  ok : X.Ok
  os : s.os = X.s₀.os
  bare : AllBare s.gens
  base : Un X.fs X.ex X.H₀ H X.s₀.heap s.heap
  loc : ∃ m, s.heap.Ns X.env.locals m ∧ ∀ (i : Nat) (x : Str) (v : V), X.N[i]? = some x → σ[i]? = some (some v) → Vis X.env.scope x → ∃ u, RelV v u ∧ Look X.env s.heap m x u
  cell : ∀ x c, X.env.cells.lookup x = some c → ∃ v, s.heap.IsCell c v
  free : H X.env.locals = none
  freeC : ∀ x c, X.env.cells.lookup x = some c → H c = none
  pin : ∀ p ∈ X.pn ++ pins, s.heap.get? p.1 = some p.2 ∧ H p.1 = none ∧ p.1 ≠ X.env.locals ∧ p.1 ∉ X.fs ∧ ∀ v, p.2.data ≠ .cell v
  hok : HOk X.prog X.w H s.heap
  len : σ.length = X.N.length

section
variable {X : Cx} {pins : List (Addr × Obj)} {σ : List (Option V)} {H H' : Hp} {s : Shared} {h' : Heap}

theorem Cx.Ok.nofr (ok : X.Ok) {b : Addr} {o : Obj} (e : X.base.get? b = some o) : b ∉ X.fs := fun hb => by
  have := (ok.funs.mem hb).1
  rw [e] at this; cases this
theorem Inv.bs (I : Inv X pins σ H s) : ∀ b o, X.base.get? b = some o → s.heap.get? b = some o ∧ H b = none := fun b o e =>
  ⟨I.base.keep b o (I.ok.bs b o e).1 (I.ok.bs b o e).2 (I.ok.nofr e) (I.ok.noex b o e), I.base.free b o (I.ok.bs b o e).1 (I.ok.bs b o e).2 (I.ok.noex b o e)⟩
theorem Inv.bk (I : Inv X pins σ H s) : ∀ b o, X.base.get? b = some o → s.heap.get? b = some o := fun b o e => (I.bs b o e).1
theorem TabsIn.grow {K : PySem.W.Frag} {H H' : Hp} (x : TabsIn K H) (g : ∀ b ps, H b = some (.tbl ps) → ∃ more, H' b = some (.tbl (ps ++ more))) : TabsIn K H' := fun p hp => by
  obtain ⟨ps, t, e, q⟩ := x p hp
  obtain ⟨more, e'⟩ := g _ _ e
  refine ⟨_, t, e', ?_⟩
  have : 0 < ps.size := by
    rcases Nat.eq_zero_or_pos ps.size with z | z
    · rw [Array.getElem?_eq_none (by omega)] at q; cases q
    · exact z
  rw [Array.getElem?_append_left this]; exact q
theorem Inv.tabs (I : Inv X pins σ H s) : TabsIn X.K H := I.ok.tab.grow I.base.tbls
theorem Inv.mod (I : Inv X pins σ H s) : Mod X.K X.mg X.base := I.ok.mod
theorem Inv.kIn (I : Inv X pins σ H s) : X.K.In s.heap := I.ok.mod.kin.keeps I.bk
theorem Inv.lt (I : Inv X pins σ H s) : X.env.locals < s.heap.objs.size := let ⟨_, hn, _⟩ := I.loc; hn.lt
theorem Inv.sz (I : Inv X pins σ H s) : X.s₀.heap.objs.size ≤ s.heap.objs.size := Nat.le_trans I.ok.above (Nat.le_of_lt I.lt)
theorem Inv.nofs (I : Inv X pins σ H s) {a : Addr} (h : s.heap.objs.size ≤ a) : a ∉ X.fs := fun hb => by
  obtain ⟨_, o, ho, _⟩ := I.ok.funs.mem hb
  exact absurd (Nat.lt_of_lt_of_le (Heap.lt_size ho) (Nat.le_trans I.sz h)) (Nat.lt_irrefl _)
theorem Inv.cne (I : Inv X pins σ H s) : ∀ x c, X.env.cells.lookup x = some c → c ≠ X.env.locals := fun x c e z => by
  obtain ⟨v, o, ho, hd⟩ := I.cell x c e
  obtain ⟨m, ⟨o', es, ep, ho', hd', _⟩, _⟩ := I.loc
  rw [z, ho'] at ho; cases ho; rw [hd'] at hd; cases hd
theorem Inv.funs (I : Inv X pins σ H s) : s.heap.FunFrames X.base X.outer := by
  have all : ∀ (l : List Env), (∀ b ∈ frs l, b ∈ X.fs) → X.s₀.heap.FunFrames X.base l → s.heap.FunFrames X.base l := by
    intro l
    induction l with
    | nil => intro _ _; trivial
    | cons env r ih =>
      intro hs hl
      obtain ⟨hk, ⟨L, o, hf, hn, ho, hd⟩, hr⟩ := hl
      have hL : L ∈ X.fs := hs L (by unfold frs; rw [List.filterMap_cons, hf]; exact List.mem_cons_self)
      obtain ⟨sl, e⟩ := I.base.slot L o ho (I.ok.frf L hL) hL fun z => I.ok.exfs L z hL
      exact ⟨hk, ⟨L, _, hf, hn, e, hd⟩, ih (fun b hb => hs b (by unfold frs; rw [List.filterMap_cons, hf]; exact List.mem_cons_of_mem _ hb)) hr⟩
  exact all X.outer (fun _ hb => hb) I.ok.funs

/-- the frames that run, for a call -/
theorem Inv.stack (I : Inv X pins σ H s) : s.heap.FunFrames X.base X.stack := by
  rcases I.ok.stk with e | ⟨e, hf⟩
  · rw [e]; exact I.funs
  · rw [e]
    obtain ⟨m, hn, _⟩ := I.loc
    refine .cons (by rw [I.ok.kind]; decide) hf hn ?_ I.funs
    exact Heap.get?_none_of_le (Nat.le_trans I.ok.bsz I.ok.above)
theorem Inv.stkSub (I : Inv X pins σ H s) : ∀ b ∈ frs X.stack, b ∈ X.env.locals :: X.fs := fun b hb => by
  rcases I.ok.stk with e | ⟨e, hf⟩
  · rw [e] at hb; exact List.mem_cons_of_mem _ hb
  · rw [e] at hb
    unfold frs at hb
    rw [List.filterMap_cons, hf] at hb
    exact hb
theorem Inv.stkFree (I : Inv X pins σ H s) : ∀ b ∈ frs X.stack, H b = none := fun b hb => by
  rcases List.mem_cons.mp (I.stkSub b hb) with e | hb
  · rw [e]; exact I.free
  · obtain ⟨_, o, ho, _⟩ := I.ok.funs.mem hb
    exact I.base.free b o ho (I.ok.frf b hb) fun z => I.ok.exfs b z hb

/-- THE STEP: the untracked objects but the frame and the records at ch are kept (the callers' frames up to slots), the frame's map is kept, the new abstract heap is held -/
theorem Inv.step {g' : Array GenState} {t' : Nat} {d' : Drawn} {ch : List Addr} (I : Inv X pins σ H s)
    (hch : ∀ b ∈ ch, (b ∈ X.ex ∨ X.s₀.heap.objs.size ≤ b) ∧ b ≠ X.env.locals ∧ (∀ x c, X.env.cells.lookup x = some c → c ≠ b) ∧ ∀ p ∈ X.pn ++ pins, p.1 ≠ b)
    (keep : ∀ b o, b ≠ X.env.locals → b ∉ X.fs → b ∉ ch → s.heap.get? b = some o → H b = none → h'.get? b = some o)
    (slot : ∀ b o, b ≠ X.env.locals → b ∈ X.fs → b ∉ ch → s.heap.get? b = some o → H b = none → ∃ sl, h'.get? b = some { o with slots := sl }) (free : ∀ b o, b ∉ ch → s.heap.get? b = some o → H b = none → H' b = none)
    (there : ∀ b o, b ∉ ch → s.heap.get? b = some o → ∃ o', h'.get? b = some o')
    (tups : ∀ b xs, H b = some (.tup xs) → H' b = some (.tup xs)) (frzs : ∀ b o u, H b = some (.frz o u) → H' b = some (.frz o u)) (tbls : ∀ b ps, H b = some (.tbl ps) → ∃ more, H' b = some (.tbl (ps ++ more)))
    (ns : ∀ m, s.heap.Ns X.env.locals m → h'.Ns X.env.locals m) (hok : HOk X.prog X.w H' h') (hg : AllBare g') :
    Inv X pins σ H' { s with heap := h', gens := g', drawn := d', toks := t' } := by
  have neL : ∀ b o, X.s₀.heap.get? b = some o → b ≠ X.env.locals := fun b o e => Nat.ne_of_lt (Nat.lt_of_lt_of_le (Heap.lt_size e) I.ok.above)
  have neC : ∀ b o, X.s₀.heap.get? b = some o → b ∉ X.ex → b ∉ ch := fun b o e hx hb => by
    rcases (hch b hb).1 with z | z
    · exact hx z
    · exact absurd (Nat.lt_of_lt_of_le (Heap.lt_size e) z) (Nat.lt_irrefl _)
  have cellK : ∀ x c, X.env.cells.lookup x = some c → ∀ v, s.heap.IsCell c v → h'.IsCell c v := fun x c e v ⟨o, ho, hd⟩ => by
    have nch : c ∉ ch := fun z => (hch c z).2.2.1 x c e rfl
    by_cases hc : c ∈ X.fs
    · obtain ⟨sl, q⟩ := slot c o (I.cne x c e) hc nch ho (I.freeC x c e)
      exact ⟨_, q, hd⟩
    · exact ⟨o, keep c o (I.cne x c e) hc nch ho (I.freeC x c e), hd⟩
  refine ⟨I.ok, I.os, hg, ⟨fun b o e n hb hx => ?_, fun b o e n hb hx => ?_, fun b o e n hx => ?_, fun b o e hx => ?_, fun b xs e => tups b xs (I.base.tups b xs e), fun b o xs e => frzs b o xs (I.base.frzs b o xs e), fun b ps e => ?_⟩, ?_, fun x c e => ?_, ?_, fun x c e => ?_, fun p hp => ?_, hok, I.len⟩
  · exact keep b o (neL b o e) hb (neC b o e hx) (I.base.keep b o e n hb hx) (I.base.free b o e n hx)
  · obtain ⟨sl, e1⟩ := I.base.slot b o e n hb hx
    obtain ⟨sl', e2⟩ := slot b _ (neL b o e) hb (neC b o e hx) e1 (I.base.free b o e n hx)
    exact ⟨sl', e2⟩
  · obtain ⟨o', e1⟩ := I.base.there b o e hx
    exact free b o' (neC b o e hx) e1 (I.base.free b o e n hx)
  · obtain ⟨o', e1⟩ := I.base.there b o e hx
    exact there b o' (neC b o e hx) e1
  · obtain ⟨m1, e1⟩ := I.base.tbls b ps e
    obtain ⟨m2, e2⟩ := tbls b _ e1
    exact ⟨m1 ++ m2, by rw [e2, Array.append_assoc]⟩
  · obtain ⟨m, hn, hl⟩ := I.loc
    refine ⟨m, ns m hn, fun i x v e1 e2 e3 => ?_⟩
    obtain ⟨u, r, l⟩ := hl i x v e1 e2 e3
    refine ⟨u, r, ?_⟩
    rcases l with l | ⟨k, c, e, z⟩
    · exact .inl l
    · exact .inr ⟨k, c, e, cellK x c e _ z⟩
  · obtain ⟨v, z⟩ := I.cell x c e
    exact ⟨v, cellK x c e v z⟩
  · obtain ⟨m, ⟨o, _, _, ho, _⟩, _⟩ := I.loc
    exact free _ o (fun z => (hch _ z).2.1 rfl) ho I.free
  · obtain ⟨v, o, ho, hd⟩ := I.cell x c e
    exact free c o (fun z => (hch c z).2.2.1 x c e rfl) ho (I.freeC x c e)
  · obtain ⟨e, n, ne, nf, d⟩ := I.pin p hp
    have nch : p.1 ∉ ch := fun z => (hch p.1 z).2.2.2 p hp rfl
    exact ⟨keep p.1 p.2 ne nf nch e n, free p.1 p.2 nch e n, ne, nf, d⟩
/-- .. where the frame's own object is kept too -/
theorem Inv.un {t' : Nat} (I : Inv X pins σ H s) (u : Un X.fs [] H H' s.heap h') (hok : HOk X.prog X.w H' h') : Inv X pins σ H' { s with heap := h', toks := t' } := by
  obtain ⟨m, ⟨o, es, ep, ho, r⟩, _⟩ := id I.loc
  obtain ⟨sl, hL⟩ := u.any ho I.free (by simp)
  exact I.step (g' := s.gens) (d' := s.drawn) (ch := []) (fun _ z => nomatch z) (fun b o _ hb _ e n => u.keep b o e n hb (by simp)) (fun b o _ hb _ e n => u.slot b o e n hb (by simp)) (fun b o _ e n => u.free b o e n (by simp)) (fun b o _ e => u.there b o e (by simp)) u.tups u.frzs u.tbls (fun m' hm => by
    obtain ⟨o', es', ep', ho', r'⟩ := hm
    rw [ho] at ho'; cases ho'
    exact ⟨_, es', ep', hL, r'⟩) hok I.bare
/-- behind a call (or a comprehension's block): the slots of this frame may have changed too, the records at ch may have turned -/
theorem Inv.call {g' : Array GenState} {t' : Nat} {d' : Drawn} {ch : List Addr} (I : Inv X pins σ H s) (u : Un (frs X.stack) ch H H' s.heap h') (hok : HOk X.prog X.w H' h') (hg : AllBare g')
    (hch : ∀ b ∈ ch, (b ∈ X.ex ∨ X.s₀.heap.objs.size ≤ b) ∧ b ≠ X.env.locals ∧ (∀ x c, X.env.cells.lookup x = some c → c ≠ b) ∧ ∀ p ∈ X.pn ++ pins, p.1 ≠ b) :
    Inv X pins σ H' { s with heap := h', gens := g', drawn := d', toks := t' } := by
  obtain ⟨m, ⟨o, es, ep, ho, r⟩, _⟩ := id I.loc
  obtain ⟨sl, hL⟩ := u.any ho I.free fun z => (hch _ z).2.1 rfl
  exact I.step (ch := ch) hch (fun b o hL hb hc e n => u.keep b o e n (fun z => (List.mem_cons.mp (I.stkSub b z)).elim hL hb) hc) (fun b o _ _ hc e n => u.any e n hc) (fun b o hc e n => u.free b o e n hc) (fun b o hc e => u.there b o e hc) u.tups u.frzs u.tbls (fun m' hm => by
    obtain ⟨o', es', ep', ho', r'⟩ := hm
    rw [ho] at ho'; cases ho'
    exact ⟨_, es', ep', hL, r'⟩) hok hg
/-- an untracked record of ours (an iterator) has turned -/
theorem Inv.turned {t' : Nat} {it : Addr} (I : Inv X pins σ H s) (k : ∀ b o, b ≠ it → s.heap.get? b = some o → h'.get? b = some o) (hn : H it = none) (hL : it ≠ X.env.locals)
    (h1 : it ∈ X.ex ∨ X.s₀.heap.objs.size ≤ it) (h2 : ∀ x c, X.env.cells.lookup x = some c → c ≠ it) (h3 : ∀ p ∈ X.pn ++ pins, p.1 ≠ it) : Inv X pins σ H { s with heap := h', toks := t' } := by
  have nit : ∀ b u, H b = some u → b ≠ it := fun b u e z => by rw [z, hn] at e; cases e
  refine I.step (g' := s.gens) (d' := s.drawn) (ch := [it]) (fun b hb => ?_) (fun b o _ _ hc e _ => k b o (fun z => hc (by simp [z])) e) (fun b o _ _ hc e _ => ⟨o.slots, k b o (fun z => hc (by simp [z])) e⟩) (fun _ _ _ _ n => n)
    (fun b o hc e => ⟨o, k b o (fun z => hc (by simp [z])) e⟩) (fun _ _ e => e) (fun _ _ _ e => e) (fun b ps e => ⟨#[], by rw [e]; simp⟩) (fun m hm => ?_) (fun b u e => ?_) I.bare
  · have e : b = it := by simpa using hb
    subst e
    exact ⟨h1, hL, h2, h3⟩
  · obtain ⟨o, es, ep, ho, r⟩ := hm
    exact ⟨o, es, ep, k _ o (Ne.symm hL) ho, r⟩
  · refine (I.hok b u e).stay (fun c v hc q => k c v ?_ q) (fun _ q => q) (fun _ _ q => q) fun _ _ _ q => q
    rcases hc with z | z
    · rw [z]; exact nit b u e
    · exact nit c _ z
theorem Inv.tok (I : Inv X pins σ H s) (t : Nat) : Inv X pins σ H { s with toks := t } := I.un (h' := s.heap) (t' := t) Un.refl I.hok
/-- all objects kept -/
theorem Inv.kept {t' : Nat} (I : Inv X pins σ H s) (k : ∀ b u, s.heap.get? b = some u → h'.get? b = some u) : Inv X pins σ H { s with heap := h', toks := t' } := I.un (Un.kept k) (I.hok.kept k)
/-- a new object laid and tracked -/
theorem Inv.laid {a : Addr} {o : HO} {t' : Nat} (I : Inv X pins σ H s) (k : ∀ b u, s.heap.get? b = some u → h'.get? b = some u) (hp : s.heap.objs.size ≤ a) (new : ObjOk X.prog X.w (upd H a o) h' a o) :
    Inv X pins σ (upd H a o) { s with heap := h', toks := t' } := I.un (Un.laid k hp (I.hok.fresh hp)) (I.hok.laid k hp new)
/-- an object written -/
theorem Inv.write {x e : Addr} {o : HO} {t' : Nat} (I : Inv X pins σ H s) (mu : Mut (H x)) (he : e = x ∨ H e = some (.own x)) (k : ∀ b u, b ≠ e → s.heap.get? b = some u → h'.get? b = some u) (heo : ∃ u, h'.get? e = some u)
    (new : ObjOk X.prog X.w (upd H x o) h' x o) : Inv X pins σ (upd H x o) { s with heap := h', toks := t' } := I.un (Un.write mu he k heo) (I.hok.write mu he k heo new)
theorem Inv.pins_of {pins' : List (Addr × Obj)} (I : Inv X pins σ H s) (h : ∀ p ∈ pins', s.heap.get? p.1 = some p.2 ∧ H p.1 = none ∧ p.1 ≠ X.env.locals ∧ p.1 ∉ X.fs ∧ ∀ v, p.2.data ≠ .cell v) : Inv X pins' σ H s :=
  ⟨I.ok, I.os, I.bare, I.base, I.loc, I.cell, I.free, I.freeC, fun p hp => (List.mem_append.mp hp).elim (fun z => I.pin p (List.mem_append_left _ z)) (h p), I.hok, I.len⟩

theorem nodup_ix {N : List Str} (hN : N.Nodup) {i j : Nat} {x : Str} (a : N[i]? = some x) (b : N[j]? = some x) : i = j := by
  obtain ⟨h1, e1⟩ := List.getElem?_eq_some_iff.mp a
  obtain ⟨h2, e2⟩ := List.getElem?_eq_some_iff.mp b
  exact (List.getElem_inj hN).mp (e1.trans e2.symm)

/-- a name is stored; what changed -/
theorem store_ok2 {M : Model} {A : Around} {E : Value → Shared → Prop} {i : Nat} {x : Str} {v : V} {u : Value} {Q : Unit → Shared → Prop} (I : Inv X pins σ H s) (hN : X.N.Nodup) (hi : X.N[i]? = some x) (hx : Loc X.env.scope x) (r : RelV v u)
    (h : ∀ s', Inv X pins (σ.set i (some v)) H s' → (∃ a, Heap.SameBut a s.heap s'.heap ∧ (a = X.env.locals ∨ X.env.cells.lookup x = some a)) → Q () s') (hf : X.fn x = true ∨ X.env.scope.names.lookup x = some .local := by first | exact .inl rfl | exact .inr rfl | assumption) : wpAny M A (storeName X.env x u) Q E s := by
  obtain ⟨m, hn, hl⟩ := id I.loc
  have hcls : (X.env.scope.kind == .class || (X.env.scope.kind == .module && X.env.locals != X.env.globals)) = false := by rw [I.ok.kind]; rfl
  have hiσ : i < σ.length := by rw [I.len]; exact (List.getElem?_eq_some_iff.mp hi).1
  have cne := I.cne
  have tracked : ∀ {a : Addr} {h' : Heap}, (∃ o, s.heap.get? a = some o ∧ H a = none) → Heap.SameBut a s.heap h' → HOk X.prog X.w H h' := fun {a h'} ha hs b ob e => by
    obtain ⟨_, _, hfree⟩ := ha
    refine (I.hok b ob e).stay (fun c w' hc q => (hs.2 c ?_).trans q) (fun _ q => q) (fun _ _ q => q) fun _ _ _ q => q
    rintro rfl
    rcases hc with rfl | hc
    · rw [hfree] at e; cases e
    · rw [hfree] at hc; cases hc
  rcases hx with hk | hk
  · refine wpAny_storeName_local hk hn (fun h' hn' hs => ?_) hcls
    obtain ⟨oL, _, _, hoL, _⟩ := id hn
    refine h _ ⟨I.ok, I.os, I.bare, ⟨fun b o e n hb hx => ?_, fun b o e n hb hx => ?_, I.base.free, fun b o e hx => ?_, I.base.tups, I.base.frzs, I.base.tbls⟩, ⟨_, hn', fun j y v' e1 e2 e3 => ?_⟩, fun y c e => ?_, I.free, I.freeC, fun p hp => ?_, tracked ⟨oL, hoL, I.free⟩ hs, by simpa using I.len⟩ ⟨_, hs, .inl rfl⟩
    · exact (hs.2 b (Nat.ne_of_lt (Nat.lt_of_lt_of_le (Heap.lt_size e) I.ok.above))).trans (I.base.keep b o e n hb hx)
    · obtain ⟨sl, e1⟩ := I.base.slot b o e n hb hx
      exact ⟨sl, (hs.2 b (Nat.ne_of_lt (Nat.lt_of_lt_of_le (Heap.lt_size e) I.ok.above))).trans e1⟩
    · obtain ⟨o', e1⟩ := I.base.there b o e hx
      exact ⟨o', (hs.2 b (Nat.ne_of_lt (Nat.lt_of_lt_of_le (Heap.lt_size e) I.ok.above))).trans e1⟩
    · by_cases hj : j = i
      · subst hj
        rw [hi] at e1; cases e1
        rw [List.getElem?_set_self hiσ] at e2
        cases e2
        exact ⟨u, r, .inl ⟨hk, by simp⟩⟩
      · rw [List.getElem?_set_ne (Ne.symm hj)] at e2
        obtain ⟨u', r', q⟩ := hl j y v' e1 e2 e3
        refine ⟨u', r', ?_⟩
        rcases q with ⟨k, e⟩ | ⟨k, c, e, z⟩
        · refine .inl ⟨k, ?_⟩
          have : y ≠ x := fun e => hj (nodup_ix hN e1 (e ▸ hi))
          simp [this, e]
        · exact .inr ⟨k, c, e, z.sameBut hs (cne y c e)⟩
    · obtain ⟨w', z⟩ := I.cell y c e
      exact ⟨w', z.sameBut hs (cne y c e)⟩
    · obtain ⟨e, n, ne, nf, d⟩ := I.pin p hp
      exact ⟨(hs.2 p.1 ne).trans e, n, ne, nf, d⟩
  · have hfn : X.fn x = true := by
      rcases hf with z | z
      · exact z
      · rw [z] at hk; cases hk
    obtain ⟨c, hc⟩ := I.ok.has x (.inl hk)
    obtain ⟨w', z⟩ := I.cell x c hc
    refine wpAny_storeName_cell I.ok.kind hk hc z (fun h' hc' hs => ?_)
    obtain ⟨oc, hoc, hocd⟩ := id z
    refine h { s with heap := h' } ⟨I.ok, I.os, I.bare, ⟨fun b o e n hb hx => ?_, fun b o e n hb hx => ?_, I.base.free, fun b o e hx => ?_, I.base.tups, I.base.frzs, I.base.tbls⟩, ⟨m, hn.sameBut hs (Ne.symm (cne x c hc)), fun j y v' e1 e2 e3 => ?_⟩, fun y c' e => ?_, I.free, I.freeC, fun p hp => ?_, tracked ⟨oc, hoc, I.freeC x c hc⟩ hs, by simpa using I.len⟩ ⟨c, hs, .inr hc⟩
    · exact (hs.2 b (Nat.ne_of_lt (Nat.lt_of_lt_of_le (Heap.lt_size e) (I.ok.cab x c hfn hc)))).trans (I.base.keep b o e n hb hx)
    · obtain ⟨sl, e1⟩ := I.base.slot b o e n hb hx
      exact ⟨sl, (hs.2 b (Nat.ne_of_lt (Nat.lt_of_lt_of_le (Heap.lt_size e) (I.ok.cab x c hfn hc)))).trans e1⟩
    · obtain ⟨o', e1⟩ := I.base.there b o e hx
      exact ⟨o', (hs.2 b (Nat.ne_of_lt (Nat.lt_of_lt_of_le (Heap.lt_size e) (I.ok.cab x c hfn hc)))).trans e1⟩
    · by_cases hj : j = i
      · subst hj
        rw [hi] at e1; cases e1
        rw [List.getElem?_set_self hiσ] at e2
        cases e2
        exact ⟨u, r, .inr ⟨.inl hk, c, hc, hc'⟩⟩
      · rw [List.getElem?_set_ne (Ne.symm hj)] at e2
        obtain ⟨u', r', q⟩ := hl j y v' e1 e2 e3
        refine ⟨u', r', ?_⟩
        rcases q with q | ⟨k, c', e, z'⟩
        · exact .inl q
        · refine .inr ⟨k, c', e, z'.sameBut hs ?_⟩
          rintro rfl
          exact hj (nodup_ix hN e1 (I.ok.inj _ _ _ e hc ▸ hi))
    · by_cases hcc : c' = c
      · subst hcc; exact ⟨_, hc'⟩
      · obtain ⟨w2, z2⟩ := I.cell y c' e
        exact ⟨w2, z2.sameBut hs hcc⟩
    · obtain ⟨e, n, ne, nf, d⟩ := I.pin p hp
      refine ⟨(hs.2 p.1 ?_).trans e, n, ne, nf, d⟩
      intro q
      rw [q, hoc] at e
      have q' : oc = p.2 := Option.some.inj e
      exact d w' (by rw [← q']; exact hocd)
theorem store_ok {M : Model} {A : Around} {E : Value → Shared → Prop} {i : Nat} {x : Str} {v : V} {u : Value} {Q : Unit → Shared → Prop} (I : Inv X pins σ H s) (hN : X.N.Nodup) (hi : X.N[i]? = some x) (hx : Loc X.env.scope x) (r : RelV v u)
    (h : ∀ s', Inv X pins (σ.set i (some v)) H s' → Q () s') (hf : X.fn x = true ∨ X.env.scope.names.lookup x = some .local := by first | exact .inl rfl | exact .inr rfl | assumption) : wpAny M A (storeName X.env x u) Q E s :=
  store_ok2 I hN hi hx r (fun s' I' _ => h s' I') hf
/-- behind a call or a block, the state as it is -/
theorem Inv.call' {s' : Shared} {ch : List Addr} (I : Inv X pins σ H s) (ho : s'.os = s.os) (u : Un (frs X.stack) ch H H' s.heap s'.heap) (hok : HOk X.prog X.w H' s'.heap) (hg : AllBare s'.gens)
    (hch : ∀ b ∈ ch, (b ∈ X.ex ∨ X.s₀.heap.objs.size ≤ b) ∧ b ≠ X.env.locals ∧ (∀ x c, X.env.cells.lookup x = some c → c ≠ b) ∧ ∀ p ∈ X.pn ++ pins, p.1 ≠ b) : Inv X pins σ H' s' := by
  obtain ⟨h', g', d', t', o'⟩ := s'
  have e : o' = s.os := ho
  subst e
  exact I.call (g' := g') (t' := t') (d' := d') u hok hg hch
end

/-! ### the judgements -/
/-- an exception: its class, its own dict's address (where it has one), the abstract heap behind it -/
abbrev XK := Value → Option Addr → Hp → Prop
abbrev St := List (Option V)
abbrev VK := V → Hp → Prop
/-- an expression's reading; a test's; an argument list's -/
abbrev TE := St → Hp → VK → Prop
abbrev TT := St → Hp → (Bool → Hp → Prop) → Prop
abbrev TA := St → Hp → (List V → Hp → Prop) → Prop
/-- what is wanted behind a statement -/
structure Ends where
  nx : St → Hp → Prop
  rt : VK
  bk : St → Hp → Prop := fun _ _ => False
  ct : St → Hp → Prop := fun _ _ => False
abbrev TS := Ends → St → Hp → Prop

def EP (X : Cx) (pins : List (Addr × Obj)) (σ : St) (Q : VK) (u : Value) (s' : Shared) : Prop := ∃ v H', Inv X pins σ H' s' ∧ RelV v u ∧ Q v H'
def TP (X : Cx) (pins : List (Addr × Obj)) (σ : St) (Q : Bool → Hp → Prop) (b : Bool) (s' : Shared) : Prop := ∃ H', Inv X pins σ H' s' ∧ Q b H'
def AP (X : Cx) (pins : List (Addr × Obj)) (σ : St) (Q : List V → Hp → Prop) (us : List Value) (s' : Shared) : Prop := ∃ vs H', Inv X pins σ H' s' ∧ Vals vs us ∧ Q vs H'
def SP (X : Cx) (pins : List (Addr × Obj)) (D : Ends) (f : Flow) (s' : Shared) : Prop :=
  match f with
  | .next => ∃ σ' H', Inv X pins σ' H' s' ∧ D.nx σ' H'
  | .brk => ∃ σ' H', Inv X pins σ' H' s' ∧ D.bk σ' H'
  | .cont => ∃ σ' H', Inv X pins σ' H' s' ∧ D.ct σ' H'
  | .ret u => ∃ v σ' H', Inv X pins σ' H' s' ∧ RelV v u ∧ D.rt v H'

def PE (X : Cx) (e : Expr) (t : TE) : Prop :=
  ∀ (pins : List (Addr × Obj)) (s : Shared) (σ : St) (H : Hp) (Q : VK), Inv X pins σ H s → t σ H Q → wpAny (model X.prog X.w) X.A (eval e X.env) (EP X pins σ Q) X.xe s
def PT (X : Cx) (e : Expr) (t : TT) : Prop :=
  ∀ (pins : List (Addr × Obj)) (s : Shared) (σ : St) (H : Hp) (Q : Bool → Hp → Prop), Inv X pins σ H s → t σ H Q → wpAny (model X.prog X.w) X.A (isTrue e X.env (eval e X.env)) (TP X pins σ Q) X.xe s
/-- a test whatever its 'whole' is (and, or) -/
def PW (X : Cx) (e : Expr) (t : TT) : Prop :=
  ∀ (whole : Sem Value) (pins : List (Addr × Obj)) (s : Shared) (σ : St) (H : Hp) (Q : Bool → Hp → Prop), Inv X pins σ H s → t σ H Q → wpAny (model X.prog X.w) X.A (isTrue e X.env whole) (TP X pins σ Q) X.xe s
theorem PW.pt {X : Cx} {e : Expr} {t : TT} (h : PW X e t) : PT X e t := h _
/-- an argument list (no star), from the left -/
def PA (X : Cx) (es : List Expr) (t : TA) : Prop :=
  ∀ (pos : Pos) (pins : List (Addr × Obj)) (s : Shared) (σ : St) (H : Hp) (Q : List V → Hp → Prop), Inv X pins σ H s → t σ H Q → wpAny (model X.prog X.w) X.A (spliced (backTo pos (starEach es X.env))) (AP X pins σ Q) X.xe s
def PS (X : Cx) (st : Stmt) (t : TS) : Prop :=
  ∀ (pins : List (Addr × Obj)) (s : Shared) (σ : St) (H : Hp) (D : Ends), Inv X pins σ H s → t D σ H → wpAny (model X.prog X.w) X.A (exec st X.env) (SP X pins D) X.xe s
def PSs (X : Cx) (st : List Stmt) (t : TS) : Prop :=
  ∀ (pins : List (Addr × Obj)) (s : Shared) (σ : St) (H : Hp) (D : Ends), Inv X pins σ H s → t D σ H → wpAny (model X.prog X.w) X.A (execs st X.env) (SP X pins D) X.xe s
/-- weaken the end -/
theorem thn {α : Type} {t : Sem α} {Q Q' : α → Shared → Prop} {M : Model} {A : Around} {E : Value → Shared → Prop} {s : Shared} (h : wpAny M A t Q E s) (hQ : ∀ a s, Q a s → Q' a s) : wpAny M A t Q' E s := wpAny_mono h hQ fun _ _ x => x
end L2

namespace L2
open PySem PySem.Spec PyProof.Rows
section
variable {X : Cx}

/-! ### names and constants -/
def tVar (i : Nat) : TE := fun σ H Q => ∃ v, σ[i]? = some (some v) ∧ Q v H
def tC (v : V) : TE := fun _ H Q => Q v H
theorem pe_var {i : Nat} {x : Str} {pos : Pos} (hN : X.N[i]? = some x) (hv : Vis X.env.scope x) (hd : (x == ("__debug__" : Str)) = false := by decide) (hcd : (x == ("__classdict__" : Str)) = false := by decide) : PE X (.Name x pos) (tVar i) := by
  intro pins s σ H Q I h
  obtain ⟨v, e, h⟩ := h
  obtain ⟨m, hn, hl⟩ := I.loc
  obtain ⟨u, r, l⟩ := hl i x v hN e hv
  have fin : EP X pins σ Q u s := ⟨v, H, I, r, h⟩
  rcases l with ⟨hk, hm⟩ | ⟨hk, c, hc, hcell⟩
  · exact wpAny_Name (wpAny_loadName_local I.ok.kind hk hn hm fin) hd
  · rcases hk with hk | hk
    · exact wpAny_Name (wpAny_loadName_cell I.ok.kind hk hc hcell fin) hd
    · exact wpAny_Name (wpAny_loadName_free I.ok.kind hk hc hcell fin hcd) hd
theorem pe_int {i j pos} : PE X (.Constant (.int i) j pos) (tC (.int i)) := fun _ _ _ H _ I h => wpAny_Constant_int ⟨.int i, H, I.tok _, ⟨_, rfl⟩, h⟩
theorem pe_bl {b j pos} : PE X (.Constant (.bool b) j pos) (tC (.bl b)) := fun _ _ _ H _ I h => Constant_bool ⟨.bl b, H, I, rfl, h⟩
theorem pe_non {j pos} : PE X (.Constant .none j pos) (tC .non) := fun _ _ _ H _ I h => Constant_none ⟨.non, H, I, rfl, h⟩
theorem pe_str {x j pos} : PE X (.Constant (.str x) j pos) (tC (.str x)) := fun _ _ _ H _ I h => Calls.Constant_str ⟨.str x, H, I.tok _, ⟨_, rfl⟩, h⟩

/-- a global name of the def -/
def Gl (X : Cx) (x : Str) : Prop := X.env.kindOf x = some .globalImplicit
theorem ld_glob {E : Value → Shared → Prop} {pins : List (Addr × Obj)} {s : Shared} {σ : St} {H : Hp} {x : Str} {u : Value} {pos : Pos} {Q : Value → Shared → Prop} (I : Inv X pins σ H s) (hg : Gl X x) (hm : X.mg x = some u) (h : Q u s)
    (hd : (x == ("__debug__" : Str)) = false := by decide) : wpAny (model X.prog X.w) X.A (eval (.Name x pos) X.env) Q E s :=
  Calls.Name_function_global I.ok.kind hg (Calls.loadGlobal_global (by rw [I.ok.glob]; exact I.mod.glob.keeps I.bk) hm h) hd
theorem ld_blt {E : Value → Shared → Prop} {pins : List (Addr × Obj)} {s : Shared} {σ : St} {H : Hp} {x : Str} {u : Value} {pos : Pos} {Q : Value → Shared → Prop} (I : Inv X pins σ H s) (hg : Gl X x) (hm : X.mg x = none) (hv : bootBuiltins x = some u) (h : Q u s)
    (hn : x ≠ "__name__" := by decide) (hd : (x == ("__debug__" : Str)) = false := by decide) : wpAny (model X.prog X.w) X.A (eval (.Name x pos) X.env) Q E s := by
  obtain ⟨mb, h1, h2⟩ := I.mod.blt
  exact Calls.Name_function_global I.ok.kind hg (Calls.loadGlobal_builtin (by rw [I.ok.glob]; exact I.mod.glob.keeps I.bk) hm (by rw [I.ok.blt]; exact h1.keeps I.bk) ((h2 x hn).trans hv) h) hd
/-- a module's constant, a class, a function, as a value -/
theorem pe_glob {x : Str} {v : V} {u : Value} {pos : Pos} (hg : Gl X x) (hm : X.mg x = some u) (r : RelV v u) (hd : (x == ("__debug__" : Str)) = false := by decide) : PE X (.Name x pos) (tC v) :=
  fun _ _ _ H _ I h => ld_glob I hg hm ⟨v, H, I, r, h⟩ hd
theorem pe_bltn {x : Str} {v : V} {u : Value} {pos : Pos} (hg : Gl X x) (hm : X.mg x = none) (hv : bootBuiltins x = some u) (r : RelV v u) (hn : x ≠ "__name__" := by decide) (hd : (x == ("__debug__" : Str)) = false := by decide) : PE X (.Name x pos) (tC v) :=
  fun _ _ _ H _ I h => ld_blt I hg hm hv ⟨v, H, I, r, h⟩ hn hd

/-! ### arithmetic -/
variable {a b : Expr} {ta tb : TE} {pos : Pos}
/-- a comparison as a value, as a test -/
def tB (t : TE) : TT := fun σ H Q => t σ H fun x H1 => ∃ c, x = .bl c ∧ Q c H1
/-- an expression whose value is a bool, as a test -/
theorem pt_val {e : Expr} {t : TE} (h : PE X e t) (he : ∀ whole, isTrue e X.env whole = (do let v ← whole; standAt e.pos; holding [v] (truthy v)) := by intro _; rfl) : PT X e (tB t) := by
  intro pins s σ H Q I hw
  refine isTrue_plain (thn (h pins s σ H _ I hw) fun v s1 ⟨x, H1, I1, r1, q1⟩ => ?_) (he _)
  obtain ⟨d, rfl, q⟩ := q1
  cases r1
  exact wpAny_truthy_bool ⟨H1, I1, q⟩

/-! ### and, or, not -/
variable {tA tB' : TT} {rest : List Expr}
def tAnd (t u : TT) : TT := fun σ H Q => t σ H fun c H1 => if c = true then u σ H1 Q else Q false H1
def tOr (t u : TT) : TT := fun σ H Q => t σ H fun c H1 => if c = true then Q true H1 else u σ H1 Q
def tNot (t : TT) : TT := fun σ H Q => t σ H fun c H1 => Q (!c) H1
theorem pw_and1 (ha : PT X a tA) : PW X (.BoolOp .And [a] pos) tA := by
  intro wh pins s σ H Q I h
  refine isTrue_and (thn (ha pins s σ H Q I h) fun c s1 e => ?_)
  cases c with
  | true => exact isTrue_and_nil e
  | false => exact e
theorem pw_or1 (ha : PT X a tA) : PW X (.BoolOp .Or [a] pos) tA := by
  intro wh pins s σ H Q I h
  refine isTrue_or (thn (ha pins s σ H Q I h) fun c s1 e => ?_)
  cases c with
  | false => exact isTrue_or_nil e
  | true => exact e
theorem pw_and (ha : PT X a tA) (hb : PW X (.BoolOp .And (b :: rest) pos) tB') : PW X (.BoolOp .And (a :: b :: rest) pos) (tAnd tA tB') := by
  intro wh pins s σ H Q I h
  refine isTrue_and (thn (ha pins s σ H _ I h) fun c s1 ⟨H1, I1, q1⟩ => ?_)
  cases c with
  | true => exact hb wh pins s1 σ H1 Q I1 q1
  | false => exact ⟨H1, I1, q1⟩
theorem pw_or (ha : PT X a tA) (hb : PW X (.BoolOp .Or (b :: rest) pos) tB') : PW X (.BoolOp .Or (a :: b :: rest) pos) (tOr tA tB') := by
  intro wh pins s σ H Q I h
  refine isTrue_or (thn (ha pins s σ H _ I h) fun c s1 ⟨H1, I1, q1⟩ => ?_)
  cases c with
  | true => exact ⟨H1, I1, q1⟩
  | false => exact hb wh pins s1 σ H1 Q I1 q1
theorem pt_not (ha : PT X a tA) : PT X (.UnaryOp .Not a pos) (tNot tA) := by
  intro pins s σ H Q I h
  exact isTrue_not (ha pins s σ H (fun c H1 => Q (!c) H1) I h)
/-- .. as values (bools) -/
def tAndV (ta tb : TE) : TE := fun σ H Q => ta σ H fun x H1 => ∃ c, x = .bl c ∧ if c = true then tb σ H1 Q else Q (.bl false) H1
def tOrV (ta tb : TE) : TE := fun σ H Q => ta σ H fun x H1 => ∃ c, x = .bl c ∧ if c = true then Q (.bl true) H1 else tb σ H1 Q
theorem pe_one {op} {t : TE} (h : PE X a t) : PE X (.BoolOp op [a] pos) t := fun pins s σ H Q I hw => BoolOp_one (h pins s σ H Q I hw)
theorem pe_and (ha : PE X a ta) (hb : PE X (.BoolOp .And (b :: rest) pos) tb) : PE X (.BoolOp .And (a :: b :: rest) pos) (tAndV ta tb) := by
  intro pins s σ H Q I h
  refine BoolOp_and (thn (ha pins s σ H _ I h) fun v s1 ⟨x, H1, I1, r1, q1⟩ => ?_)
  obtain ⟨c, rfl, q1⟩ := q1
  cases r1
  refine wpAny_truthy_bool ?_
  cases c with
  | true => exact hb pins s1 σ H1 Q I1 q1
  | false => exact ⟨.bl false, H1, I1, rfl, q1⟩
theorem pe_or (ha : PE X a ta) (hb : PE X (.BoolOp .Or (b :: rest) pos) tb) : PE X (.BoolOp .Or (a :: b :: rest) pos) (tOrV ta tb) := by
  intro pins s σ H Q I h
  refine BoolOp_or (thn (ha pins s σ H _ I h) fun v s1 ⟨x, H1, I1, r1, q1⟩ => ?_)
  obtain ⟨c, rfl, q1⟩ := q1
  cases r1
  refine wpAny_truthy_bool ?_
  cases c with
  | false => exact hb pins s1 σ H1 Q I1 q1
  | true => exact ⟨.bl true, H1, I1, rfl, q1⟩
/-- a if t else b -/
def tIf (t : TT) (ta tb : TE) : TE := fun σ H Q => t σ H fun c H1 => if c = true then ta σ H1 Q else tb σ H1 Q
theorem pe_ifExp {c : Expr} (hc : PT X c tA) (ha : PE X a ta) (hb : PE X b tb) : PE X (.IfExp c a b pos) (tIf tA ta tb) := by
  intro pins s σ H Q I h
  refine wpAny_IfExp (thn (hc pins s σ H _ I h) fun d s1 ⟨H1, I1, q1⟩ => ?_)
  cases d with
  | true => exact ha pins s1 σ H1 Q I1 q1
  | false => exact hb pins s1 σ H1 Q I1 q1
end
end L2

namespace L2
open PySem PySem.Spec PyProof.Rows

/-! ### a list, a tuple that is read: tracked, frozen, or an object of the module -/
def SqL (K : PySem.W.Frag) (H : Hp) (a : Addr) (xs : List V) : Prop :=
  Rd H a (.lst xs) ∨
    ∃ (o : Obj) (its : Array Value) (n : Nat), K.lookup a = some o ∧ o.cls = .type "list" ∧ o.dict = none ∧ o.data = .seq its n ∧ its.size ≤ sizeLine ∧ Vals xs its.toList
def SqT (K : PySem.W.Frag) (H : Hp) (a : Addr) (xs : List V) : Prop :=
  Rd H a (.tup xs) ∨
    ∃ (o : Obj) (its : Array Value) (n : Nat), K.lookup a = some o ∧ o.cls = .type "tuple" ∧ o.data = .seq its n ∧ its.size ≤ sizeLine ∧ Vals xs its.toList
def absV : Value → Option V
  | .none => some .non
  | .bool b => some (.bl b)
  | .int i _ => some (.int i)
  | .str x _ => some (.str x)
  | .bytes b _ => some (.byt b)
  | .float b _ => some (.flt b)
  | .ref a => some (.ref a)
  | .type n => some (.ty n)
  | _ => none
theorem RelV.abs {x : V} {u : Value} (r : RelV x u) : absV u = some x := by
  cases x with
  | non => cases r; rfl
  | bl _ => cases r; rfl
  | int _ => obtain ⟨t, rfl⟩ := r; rfl
  | str _ => obtain ⟨t, rfl⟩ := r; rfl
  | byt _ => obtain ⟨t, rfl⟩ := r; rfl
  | flt _ => obtain ⟨t, rfl⟩ := r; rfl
  | ref _ => cases r; rfl
  | ty _ => cases r; rfl
theorem RelV.inj {x y : V} {u : Value} (r : RelV x u) (q : RelV y u) : x = y := Option.some.inj (r.abs.symm.trans q.abs)
theorem Vals.inj : ∀ {xs ys : List V} {us : List Value}, Vals xs us → Vals ys us → xs = ys
  | _, _, _, .nil, .nil => rfl
  | _, _, _, .cons r t, .cons r' t' => by rw [r.inj r', Vals.inj t t']
section
variable {X : Cx} {pins : List (Addr × Obj)} {σ : St} {H : Hp} {s : Shared} {a : Addr} {xs ys : List V}
theorem SqL.of {K : PySem.W.Frag} (h : H a = some (.lst xs)) : SqL K H a xs := .inl (.inl h)
theorem SqT.of {K : PySem.W.Frag} (h : H a = some (.tup xs)) : SqT K H a xs := .inl (.inl h)
theorem Inv.list (I : Inv X pins σ H s) (h : SqL X.K H a xs) : ∃ its : List Value, Vals xs its ∧ PlainL s.heap a its.toArray ∧ xs.length ≤ sizeLine := by
  rcases h with h | ⟨o, its, n, hk, hc, hd, hs, hz, r⟩
  · obtain ⟨z, its, n, r, e⟩ := h.ok I.hok
    exact ⟨its, r, ⟨_, n, e, rfl, rfl, rfl⟩, z⟩
  · refine ⟨its.toList, r, ⟨o, n, I.kIn a o hk, hc, hd, by simpa using hs⟩, ?_⟩
    have e := r.length
    simp only [Array.length_toList] at e
    omega
theorem Inv.tuple (I : Inv X pins σ H s) (h : SqT X.K H a xs) : ∃ its : List Value, Vals xs its ∧ IsTup s.heap a its.toArray ∧ xs.length ≤ sizeLine := by
  rcases h with h | ⟨o, its, n, hk, hc, hs, hz, r⟩
  · obtain ⟨z, its, r, p⟩ := h.ok I.hok
    exact ⟨its, r, p, z⟩
  · refine ⟨its.toList, r, ⟨o, I.kIn a o hk, hc, n, by simpa using hs⟩, ?_⟩
    have e := r.length
    simp only [Array.length_toList] at e
    omega
theorem Inv.list_inj (I : Inv X pins σ H s) (h : SqL X.K H a xs) (h' : SqL X.K H a ys) : xs = ys := by
  obtain ⟨its, r, ⟨o, n, e, _, _, d⟩, _⟩ := I.list h
  obtain ⟨its', r', ⟨o', n', e', _, _, d'⟩, _⟩ := I.list h'
  rw [e] at e'; cases e'
  rw [d] at d'
  injection d' with d1 _
  have : its = its' := by simpa using congrArg Array.toList d1
  subst this
  exact r.inj r'
end

/-! ### another wish about exceptions -/
abbrev Cx.wish (X : Cx) (E : Value → Shared → Prop) : Cx := { X with xe := E }
/-- no exception leaves -/
abbrev Cx.nox (X : Cx) : Cx := X.wish fun _ _ => False
theorem Cx.Ok.wish {X : Cx} (ok : X.Ok) (E : Value → Shared → Prop) : (X.wish E).Ok :=
  ⟨ok.mod, ok.kind, ok.glob, ok.blt, ok.above, ok.inj, ok.has, ok.cab, ok.hd, ok.frames, ok.stk, ok.exf, ok.bs, ok.bsz, ok.noex, ok.exfs, ok.funs, ok.frf, ok.tab⟩
theorem Cx.Ok.unwish {X : Cx} {E : Value → Shared → Prop} (ok : (X.wish E).Ok) : X.Ok :=
  ⟨ok.mod, ok.kind, ok.glob, ok.blt, ok.above, ok.inj, ok.has, ok.cab, ok.hd, ok.frames, ok.stk, ok.exf, ok.bs, ok.bsz, ok.noex, ok.exfs, ok.funs, ok.frf, ok.tab⟩
section
variable {X : Cx} {pins : List (Addr × Obj)} {σ : St} {H : Hp} {s : Shared} {E : Value → Shared → Prop}
theorem Inv.wish (I : Inv X pins σ H s) (E : Value → Shared → Prop) : Inv (X.wish E) pins σ H s := ⟨I.ok.wish E, I.os, I.bare, I.base, I.loc, I.cell, I.free, I.freeC, I.pin, I.hok, I.len⟩
theorem Inv.unwish (I : Inv (X.wish E) pins σ H s) : Inv X pins σ H s := ⟨I.ok.unwish, I.os, I.bare, I.base, I.loc, I.cell, I.free, I.freeC, I.pin, I.hok, I.len⟩
theorem SP.unwish {D : Ends} {f : Flow} {s' : Shared} (h : SP (X.wish E) pins D f s') : SP X pins D f s' := by
  cases f with
  | next => obtain ⟨σ', H', I, q⟩ := h; exact ⟨σ', H', I.unwish, q⟩
  | brk => obtain ⟨σ', H', I, q⟩ := h; exact ⟨σ', H', I.unwish, q⟩
  | cont => obtain ⟨σ', H', I, q⟩ := h; exact ⟨σ', H', I.unwish, q⟩
  | ret u => obtain ⟨v, σ', H', I, r, q⟩ := h; exact ⟨v, σ', H', I.unwish, r, q⟩
theorem PSs.nox {st : List Stmt} {t : TS} (h : PSs X.nox st t) : PSs X st t := fun pins s σ H D I hw =>
  wpAny_mono (h pins s σ H D (I.wish _) hw) (fun _ _ q => q.unwish) fun _ _ z => False.elim z
end

/-! ### blocks and small statements -/
section
variable {X : Cx} {st : Stmt} {rest : List Stmt} {t u : TS} {e : Expr} {te : TE} {pos : Pos}
def tNext : TS := fun D σ H => D.nx σ H
def tSeq (t u : TS) : TS := fun D σ H => t { D with nx := u D } σ H
theorem pss_nil : PSs X [] tNext := fun _ _ σ H _ I h => wpAny_execs_nil ⟨σ, H, I, h⟩
theorem pss_cons (h1 : PS X st t) (h2 : PSs X rest u) : PSs X (st :: rest) (tSeq t u) := by
  intro pins s σ H D I h
  refine wpAny_execs_cons (thn (h1 pins s σ H { D with nx := u D } I h) fun f s1 q => ?_)
  cases f with
  | next =>
    obtain ⟨σ', H', I', q⟩ := q
    exact h2 pins s1 σ' H' D I' q
  | ret v => exact q
  | brk => exact q
  | cont => exact q
theorem pss_one (h1 : PS X st t) : PSs X [st] t := by
  intro pins s σ H D I h
  refine wpAny_execs_cons (thn (h1 pins s σ H D I h) fun f s1 q => ?_)
  cases f with
  | next => exact wpAny_execs_nil q
  | ret v => exact q
  | brk => exact q
  | cont => exact q
/-- in a def's body nothing is shown -/
theorem Inv.quiet {pins : List (Addr × Obj)} {σ : St} {H : Hp} {s : Shared} (I : Inv X pins σ H s) : interactive X.env = false := by simp [interactive, I.ok.kind]
/-- an expression whose value is dropped -/
def tDrop (te : TE) : TS := fun D σ H => te σ H fun _ H1 => D.nx σ H1
theorem ps_expr (he : PE X e te) (hs : swapsWith e none pos.line X.env = pure false := by rfl) : PS X (.Expr e pos) (tDrop te) := by
  intro pins s σ H D I h
  exact wpAny_Expr_any (thn (he pins s σ H _ I h) fun v s1 ⟨x, H1, I1, r1, q1⟩ => ⟨σ, H1, I1, q1⟩) I.quiet hs
def tRet (te : TE) : TS := fun D σ H => te σ H D.rt
theorem ps_ret (he : PE X e te) : PS X (.Return (some e) pos) (tRet te) := by
  intro pins s σ H D I h
  exact wpAny_Return_some (thn (he pins s σ H _ I h) fun v s1 ⟨x, H1, I1, r1, q1⟩ => ⟨x, σ, H1, I1, r1, q1⟩)
def tIfS (c : TT) (t u : TS) : TS := fun D σ H => c σ H fun b H1 => if b = true then t D σ H1 else u D σ H1
theorem ps_if {c : Expr} {a b : List Stmt} {tc : TT} (hc : PT X c tc) (ha : PSs X a t) (hb : PSs X b u) : PS X (.If c a b pos) (tIfS tc t u) := by
  intro pins s σ H D I h
  refine wpAny_If (thn (hc pins s σ H _ I h) fun d s1 ⟨H1, I1, q1⟩ => ?_)
  cases d with
  | true => exact ha pins s1 σ H1 D I1 q1
  | false => exact hb pins s1 σ H1 D I1 q1
/-- code that the proof never comes to -/
def tNever : TS := fun _ _ _ => False
theorem ps_never : PS X st tNever := fun _ _ _ _ _ _ h => h.elim
end

/-! ### targets -/
abbrev TG := V → St → Hp → (St → Hp → Prop) → Prop
abbrev TGs := List V → St → Hp → (St → Hp → Prop) → Prop
def PG (X : Cx) (target : Expr) (t : TG) : Prop :=
  ∀ (pins : List (Addr × Obj)) (s : Shared) (σ : St) (H : Hp) (v : V) (u : Value) (Q : St → Hp → Prop), Inv X pins σ H s → RelV v u → t v σ H Q →
    wpAny (model X.prog X.w) X.A (assign target X.env u) (fun _ s' => ∃ σ' H', Inv X pins σ' H' s' ∧ Q σ' H') X.xe s
/-- several targets, one after another -/
def PGs (X : Cx) (ts : List Expr) (t : TGs) : Prop :=
  ∀ (pins : List (Addr × Obj)) (s : Shared) (σ : St) (H : Hp) (vs : List V) (us : List Value) (Q : St → Hp → Prop), Inv X pins σ H s → Vals vs us → t vs σ H Q →
    wpAny (model X.prog X.w) X.A (assignInOrder ((assignEach ts X.env).map (·.2)) us) (fun _ s' => ∃ σ' H', Inv X pins σ' H' s' ∧ Q σ' H') X.xe s
/-- o[i] = v, by values -/
abbrev TSet := V → V → V → Hp → (Hp → Prop) → Prop
def PSet (X : Cx) (t : TSet) : Prop :=
  ∀ (pins : List (Addr × Obj)) (s : Shared) (σ : St) (H : Hp) (o i v : V) (ov iv u : Value) (Q : Hp → Prop), Inv X pins σ H s → RelV o ov → RelV i iv → RelV v u → t o i v H Q →
    wpAny (model X.prog X.w) X.A (setItem ov iv u) (fun _ s' => ∃ H', Inv X pins σ H' s' ∧ Q H') X.xe s
section
variable {X : Cx} {pos : Pos}
def gName (i : Nat) : TG := fun v σ H Q => Q (σ.set i (some v)) H
theorem pg_name {i : Nat} {x : Str} (hN : X.N.Nodup) (hi : X.N[i]? = some x) (hx : Loc X.env.scope x) (hf : X.fn x = true ∨ X.env.scope.names.lookup x = some .local := by first | exact .inl rfl | exact .inr rfl | assumption) : PG X (.Name x pos) (gName i) := by
  intro pins s σ H v u Q I r h
  exact wpAny_assign_Name (store_ok I hN hi hx r (fun s' I' => ⟨_, H, I', h⟩) hf)
def gNil : TGs := fun vs σ H Q => vs = [] ∧ Q σ H
def gCons (t : TG) (u : TGs) : TGs := fun vs σ H Q => ∃ v r, vs = v :: r ∧ t v σ H fun σ' H' => u r σ' H' Q
theorem pgs_nil : PGs X [] gNil := by
  intro pins s σ H vs us Q I r h
  obtain ⟨e, h⟩ := h
  subst e
  cases r
  exact assignInOrder_nil ⟨σ, H, I, h⟩
theorem pgs_cons {e : Expr} {es : List Expr} {t : TG} {u : TGs} (h1 : PG X e t) (h2 : PGs X es u)
    (hs : (assignEach (e :: es) X.env).map (·.2) = assign e X.env :: (assignEach es X.env).map (·.2) := by rfl) : PGs X (e :: es) (gCons t u) := by
  intro pins s σ H vs us Q I r h
  obtain ⟨v, vr, e1, h⟩ := h
  subst e1
  cases r with
  | cons r rr =>
    rw [hs]
    refine assignInOrder_cons (thn (h1 pins s σ H _ _ _ I r h) fun _ s1 ⟨σ1, H1, I1, q1⟩ => ?_)
    exact h2 pins s1 σ1 H1 _ _ Q I1 rr q1
/-- (a, b, ..) = a tuple of that length -/
def gTup (K : PySem.W.Frag) (n : Nat) (t : TGs) : TG := fun v σ H Q => ∃ a xs, v = .ref a ∧ SqT K H a xs ∧ xs.length = n ∧ t xs σ H Q
theorem pg_tup {es : List Expr} {k : Nat} {t : TGs} {n : Nat} (hc : X.calm = true) (h : PGs X es t)
    (hn : (assignEach es X.env).length = n := by rfl) (hst : (assignEach es X.env).findIdx? (·.1) = none := by rfl) : PG X (.Tuple es k pos) (gTup X.K n t) := by
  intro pins s σ H v u Q I r hw
  obtain ⟨a, xs, e1, hq, hl, hw⟩ := hw
  subst e1
  cases r
  obtain ⟨its, rv, ht, hz⟩ := I.tuple hq
  refine assign_Tuple_tuple (I.ok.hd hc) ht (by simp [hn, ← hl, rv.length]) hst fun h' hx => ?_
  have I1 : Inv X pins σ H { s with heap := h' } := I.kept (t' := s.toks) fun b o e => hx b o (Nat.ne_of_lt (Heap.lt_size e)) e
  exact h pins _ σ H xs _ Q I1 (by simpa using rv) hw
/-- o[i] = .. -/
def gSub (to ti : TE) (t : TSet) : TG := fun v σ H Q => to σ H fun o H1 => ti σ H1 fun i H2 => t o i v H2 fun H3 => Q σ H3
theorem pg_sub {o i : Expr} {to ti : TE} {t : TSet} (ho : PE X o to) (hi : PE X i ti) (hs : PSet X t)
    (ha : ∀ v, assign (.Subscript o i pos) X.env v = (do
      let ov ← holding [v] (eval o X.env)
      let iv ← holding [v, ov] (eval i X.env)
      standAt pos
      holding [v, ov, iv] (setItem ov iv v)
      release [v, ov, iv] []) := by intro _; rfl) : PG X (.Subscript o i pos) (gSub to ti t) := by
  intro pins s σ H v u Q I r h
  rw [ha]
  refine wpAny_bind (wpAny_holding (thn (ho pins s σ H _ I h) fun ov s1 ⟨x, H1, I1, r1, q1⟩ => ?_))
  refine wpAny_bind (wpAny_holding (thn (hi pins s1 σ H1 _ I1 q1) fun iv s2 ⟨y, H2, I2, r2, q2⟩ => ?_))
  refine wpAny_bind (wpAny_standAt (wpAny_bind (wpAny_holding (thn (hs pins s2 σ H2 x y v ov iv u _ I2 r1 r2 r q2) fun _ s3 ⟨H3, I3, q3⟩ => ?_))))
  exact wpAny_release ⟨σ, H3, I3, q3⟩
/-- target = value -/
def tAsg (te : TE) (g : TG) : TS := fun D σ H => te σ H fun x H1 => g x σ H1 D.nx
theorem ps_asg {tg e : Expr} {te : TE} {g : TG} (he : PE X e te) (hg : PG X tg g) (hs : swapsWithSole [tg] e pos.line X.env = pure false := by rfl) (hw : swappedStores [tg] e X.env = pure none := by rfl)
    (h1 : (assignEach [tg] X.env).map (·.2) = [assign tg X.env] := by rfl) : PS X (.Assign [tg] e pos) (tAsg te g) := by
  intro pins s σ H D I h
  refine wpAny_Assign_stores (thn (he pins s σ H _ I h) fun v s1 ⟨x, H1, I1, r1, q1⟩ => ?_) hs hw
  rw [h1]
  exact thn (hg pins s1 σ H1 x v _ I1 r1 q1) fun _ s2 q => q
/-- name = value -/
theorem ps_set {i : Nat} {x : Str} {e : Expr} {te : TE} {pos' : Pos} (hN : X.N.Nodup) (hi : X.N[i]? = some x) (hx : Loc X.env.scope x) (he : PE X e te) (hs : swapsWith e (some (.Name x pos')) pos.line X.env = pure false := by rfl) (hf : X.fn x = true ∨ X.env.scope.names.lookup x = some .local := by first | exact .inl rfl | exact .inr rfl | assumption) :
    PS X (.Assign [.Name x pos'] e pos) (tAsg te (gName i)) := by
  intro pins s σ H D I h
  refine wpAny_Assign_Name (thn (he pins s σ H _ I h) fun v s1 ⟨y, H1, I1, r1, q1⟩ => ?_) hs
  exact store_ok I1 hN hi hx r1 (fun s2 I2 => ⟨_, H1, I2, q1⟩) hf
/-- a, b = x, y with plain local names: stored from the right; the pair itself is not tracked (the opening rows as in PyProof/Rows/TupAssign.lean:23) -/
def tPar (i j : Nat) (ta : TA) : TS := fun D σ H => ta σ H fun vs H1 => ∃ v w, vs = [v, w] ∧ D.nx ((σ.set i (some v)).set j (some w)) H1
theorem ps_par {i j : Nat} {x y : Str} {a b : Expr} {ta : TA} {px py pt : Pos} {kt k2 pt2} (hc : X.calm = true) (hN : X.N.Nodup) (hi : X.N[i]? = some x) (hj : X.N[j]? = some y) (hij : i ≠ j)
    (hx : X.env.scope.names.lookup x = some .local) (hy : X.env.scope.names.lookup y = some .local) (ha : PA X [a, b] ta)
    (hw : swappedStores [.Tuple [.Name x px, .Name y py] kt pt] (.Tuple [a, b] k2 pt2) X.env = pure (some [x, y]))
    (hs : swapsWithSole [.Tuple [.Name x px, .Name y py] kt pt] (.Tuple [a, b] k2 pt2) pos.line X.env = pure false := by rfl) :
    PS X (.Assign [.Tuple [.Name x px, .Name y py] kt pt] (.Tuple [a, b] k2 pt2) pos) (tPar i j ta) := by
  intro pins s σ H D I h
  rw [exec_Assign_arm]
  refine wpAny_bind (wpAny_standAt ?_)
  rw [hs]
  refine wpAny_bind (wpAny_pure ?_)
  rw [if_neg (by decide)]
  refine wpAny_bind (Tuple_ (thn (ha _ pins s σ H _ I h) fun us s1 ⟨vs, H1, I1, r1, q1⟩ => ?_))
  obtain ⟨v, w, e1, q1⟩ := q1
  subst e1
  obtain ⟨u1, u2, rfl, rv, rw'⟩ : ∃ u1 u2, us = [u1, u2] ∧ RelV v u1 ∧ RelV w u2 := by
    cases r1 with
    | cons p q =>
      cases q with
      | cons p' q' =>
        cases q'
        exact ⟨_, _, rfl, p, p'⟩
  refine wpAny_newObj_type ?_ (by show 2 ≤ sizeLine; decide)
  have I2 : Inv X pins σ H1 { s1 with heap := s1.heap.push { cls := .type "tuple", data := .seq [u1, u2].toArray } } := I1.kept (t' := s1.toks) fun b o e => Heap.get?_push_of_some _ e
  rw [hw]
  refine wpAny_bind (wpAny_pure ?_)
  show wpAny (model X.prog X.w) X.A (do rule "assign.swapped-stores"; let items ← unpackItems (.ref s1.heap.objs.size) 2 none; assignInOrder [fun v => bindName X.env y v, fun v => bindName X.env x v] items.reverse; pure Flow.next) _ _ _
  refine wpAny_bind (wpAny_rule (wpAny_bind (unpackItems_tuple (items := #[u1, u2]) (I.ok.hd hc) (IsTup.new s1.heap _) fun h' hx' => ?_)))
  have I3 := I2.kept (h' := h') (t' := s1.toks) fun b o e => hx' b o (Nat.ne_of_lt (Heap.lt_size e)) e
  show wpAny _ _ (assignInOrder [fun v => bindName X.env y v, fun v => bindName X.env x v] [u2, u1] >>= fun _ => pure Flow.next) _ _ _
  refine wpAny_bind (assignInOrder_cons (wpAny_bindName (store_ok I3 hN hj (.inl hy) rw' (fun s2 I4 => ?_) (.inr hy))))
  refine assignInOrder_cons (wpAny_bindName (store_ok I4 hN hi (.inl hx) rv (fun s3 I5 => assignInOrder_nil (wpAny_pure ?_)) (.inr hx)))
  rw [List.set_comm _ _ (Ne.symm hij)] at I5
  exact ⟨_, H1, I5, q1⟩
end

/-! ### while -/
section
variable {X : Cx} {pos : Pos}
/-- the invariant W with its measure -/
def tWhile (c : TT) (tb : TS) : TS := fun D σ H => ∃ W : Nat → St → Hp → Prop, (∃ m, W m σ H) ∧ ∀ m σ H, W m σ H →
  c σ H fun b H1 => if b = true then ∃ N : St → Hp → Prop, (∀ σ' H', N σ' H' → ∃ m', m' < m ∧ W m' σ' H') ∧ tb { D with nx := N, ct := N, bk := D.nx } σ H1 else D.nx σ H1
theorem ps_while {c : Expr} {body : List Stmt} {tc : TT} {tb : TS} (hp : PassesOwn (model X.prog X.w) X.A X.env X.xe) (hc : PT X c tc) (hb : PSs X body tb) : PS X (.While c body [] pos) (tWhile tc tb) := by
  intro pins s σ H D I h
  obtain ⟨W, ⟨m0, w0⟩, turn⟩ := h
  refine wpAny_While (codeAny_whileLoop (fun n s' => ∃ σ' H', Inv X pins σ' H' s' ∧ W n σ' H') ?_ m0 ⟨σ, H, I, w0⟩)
  rintro n s1 ⟨σ1, H1, I1, w1⟩
  refine wpAny_passesOwn hp (thn (hc pins s1 σ1 H1 _ I1 (turn n σ1 H1 w1)) fun b s2 ⟨H2, I2, q2⟩ => ?_)
  cases b with
  | true =>
    obtain ⟨N, hN, q2⟩ := q2
    rw [if_pos rfl]
    refine wpAny_passesOwn hp (thn (hb pins s2 σ1 H2 _ I2 q2) fun f s3 q3 => ?_)
    cases f with
    | next =>
      obtain ⟨σ3, H3, I3, n3⟩ := q3
      obtain ⟨m', hm, w3⟩ := hN σ3 H3 n3
      exact ⟨m', hm, σ3, H3, I3, w3⟩
    | cont =>
      obtain ⟨σ3, H3, I3, n3⟩ := q3
      obtain ⟨m', hm, w3⟩ := hN σ3 H3 n3
      exact ⟨m', hm, σ3, H3, I3, w3⟩
    | brk => exact q3
    | ret v => exact q3
  | false =>
    rw [if_neg Bool.false_ne_true]
    exact wpAny_execs_nil ⟨σ1, H2, I2, q2⟩
end

/-! ### what a loop or a comprehension walks -/
/-- at turn i: it yields x (the heap may grow), or it stops -/
structure It where
  go : Nat → Hp → Prop
  yld : Nat → Hp → V → Hp → Prop
  stop : Nat → Hp → Prop
/-- the iterator's own objects may turn: they are not the frame's, not pinned, younger than the entry (or a comprehension's own) -/
def FpOk (X : Cx) (pins : List (Addr × Obj)) (H : Hp) (b : Addr) : Prop :=
  H b = none ∧ b ≠ X.env.locals ∧ b ∉ X.fs ∧ (b ∈ X.ex ∨ X.s₀.heap.objs.size ≤ b) ∧ (∀ x c, X.env.cells.lookup x = some c → c ≠ b) ∧ ∀ p ∈ X.pn ++ pins, p.1 ≠ b
theorem Inv.fpOk {X : Cx} {pins : List (Addr × Obj)} {σ : St} {H H' : Hp} {s : Shared} {b : Addr} (I : Inv X pins σ H s) (hb : s.heap.objs.size ≤ b) (hn : H' b = none) : FpOk X pins H' b := by
  refine ⟨hn, Nat.ne_of_gt (Nat.lt_of_lt_of_le I.lt hb), I.nofs hb, .inr (Nat.le_trans I.sz hb), fun x c e z => ?_, fun p hp z => ?_⟩
  · obtain ⟨v, q⟩ := I.cell x c e
    exact absurd (Nat.lt_of_lt_of_le q.lt (by rw [z]; exact hb)) (Nat.lt_irrefl _)
  · exact absurd (Nat.lt_of_lt_of_le (Heap.lt_size (I.pin p hp).1) (by rw [z]; exact hb)) (Nat.lt_irrefl _)
structure Turn (P : Program) (w : World) (K : PySem.W.Frag) (tg : Expr) (J : It) (fp : List Addr) (it : Addr) (tn : Nat → Heap → Prop) : Prop where
  mem : it ∈ fp
  obj : ∀ i h, tn i h → ∀ b ∈ fp, ∃ o, h.get? b = some o ∧ ∀ v, o.data ≠ .cell v
  keep : ∀ i h h', tn i h → (∀ b ∈ fp, ∀ o, h.get? b = some o → h'.get? b = some o) → tn i h'
  item : ∀ (X : Cx), X.prog = P → X.w = w → X.K = K → X.calm = true → ∀ (i : Nat) (pins : List (Addr × Obj)) (s : Shared) (σ : St) (H : Hp) (E : Value → Shared → Prop), Inv X pins σ H s → (∀ b ∈ fp, FpOk X pins H b) → tn i s.heap → J.go i H →
    wpAny (model P w) X.A (pyNext (.ref it)) (fun r s1 => ∃ u, r = some u ∧
      wpAny (model P w) X.A (letOwnedTupleGo tg (.ref it) u) (fun _ s2 => ∃ x H', Inv X pins σ H' s2 ∧ RelV x u ∧ J.yld i H x H' ∧ tn (i + 1) s2.heap ∧ ∀ b ∈ fp, H' b = none) E s1) E s
  done : ∀ (X : Cx), X.prog = P → X.w = w → X.K = K → X.calm = true → ∀ (i : Nat) (pins : List (Addr × Obj)) (s : Shared) (σ : St) (H : Hp) (E : Value → Shared → Prop), Inv X pins σ H s → (∀ b ∈ fp, FpOk X pins H b) → tn i s.heap → J.stop i H →
    wpAny (model P w) X.A (pyNext (.ref it)) (fun r s1 => r = none ∧ Inv X pins σ H s1) E s
  self : ∀ (A : Around) (i : Nat) (s : Shared) (Q : Value → Shared → Prop) (E : Value → Shared → Prop), tn i s.heap → Q (.ref it) s → wpAny (model P w) A (pyIter (.ref it)) Q E s
abbrev TI := St → Hp → (It → Hp → Prop) → Prop
/-- an iterator has come -/
def PIE (X : Cx) (pins : List (Addr × Obj)) (σ : St) (tg : Expr) (R : It → Hp → Prop) (itv : Value) (s2 : Shared) : Prop :=
  ∃ (it : Addr) (fp : List Addr) (tn : Nat → Heap → Prop) (J : It) (H' : Hp), itv = .ref it ∧ Inv X pins σ H' s2 ∧ Turn X.prog X.w X.K tg J fp it tn ∧ tn 0 s2.heap ∧ (∀ b ∈ fp, FpOk X pins H' b) ∧ R J H'
def PI (X : Cx) (tg iter : Expr) (wi : TI) : Prop :=
  ∀ (pins : List (Addr × Obj)) (s : Shared) (σ : St) (H : Hp) (R : It → Hp → Prop), Inv X pins σ H s → wi σ H R →
    wpAny (model X.prog X.w) X.A (eval iter X.env) (fun v s1 => wpAny (model X.prog X.w) X.A (pyIter v) (PIE X pins σ tg R) X.xe s1) X.xe s

/-- the step ahead of the store is nothing for an iterator that keeps no tuple -/
theorem go_of {M : Model} {A : Around} {E : Value → Shared → Prop} {s : Shared} {tg : Expr} {it : Addr} {u : Value} {o : Obj} {n : String} {vs : Array Value} {Q : Unit → Shared → Prop} (ho : s.heap.get? it = some o) (hc : o.cls = .type n) (hd : o.data = .fields vs)
    (hn : ["enumerate", "zip", "dict_itemiterator", "dict_reverseitemiterator", "odict_iterator", "itertools.zip_longest", "itertools.pairwise"].contains n = false) (hQ : Q () s) : wpAny M A (letOwnedTupleGo tg (.ref it) u) Q E s := by
  unfold letOwnedTupleGo
  cases tg <;> first
    | exact wpAny_pure hQ
    | (cases u <;> first
        | exact wpAny_pure hQ
        | (refine wpAny_bind (wpAny_load ho ?_)
           rw [hc, hd]
           show wpAny M A (if (["enumerate", "zip", "dict_itemiterator", "dict_reverseitemiterator", "odict_iterator", "itertools.zip_longest", "itertools.pairwise"].contains n && vs[0]? == some (rawInt _)) = true then _ else _) Q E s
           rw [if_neg (by intro h; rw [hn, Bool.false_and] at h; cases h)]
           exact wpAny_pure hQ))

/-- the list at a, as it stands at each turn (a loop may append to it) -/
def Itl (K : PySem.W.Frag) (a : Addr) : It :=
  ⟨fun i H => ∃ xs x, SqL K H a xs ∧ xs[i]? = some x, fun i H x H' => H' = H ∧ ∀ xs, SqL K H a xs → xs[i]? = some x, fun i H => ∃ xs, SqL K H a xs ∧ xs.length ≤ i⟩
/-- lo, lo + 1, .. (n of them) -/
def Itr (lo : Int) (n : Nat) : It := ⟨fun i _ => i < n, fun i H x H' => H' = H ∧ x = .int (lo + i), fun i _ => n ≤ i⟩
theorem turn_list {P : Program} {w : World} {K : PySem.W.Frag} {tg : Expr} (a it : Addr) : Turn P w K tg (Itl K a) [it] it (fun i h => h.IsListIter it a i) where
  mem := by simp
  obj := fun i h st b hb => by
    have e : b = it := by simpa using hb
    subst e
    obtain ⟨o, e, c, d⟩ := st
    exact ⟨o, e, fun v z => by rw [d] at z; cases z⟩
  keep := fun i h h' st k => st.at fun o e => k it (by simp) o e
  item := by
    intro X hP hw hK hc i pins s σ H E I hf st hg
    subst hP hw hK
    obtain ⟨xs, x, hq, hx⟩ := hg
    obtain ⟨its, rv, p, hz⟩ := I.list hq
    obtain ⟨u, hu, ru⟩ := rv.get hx
    obtain ⟨f0, f1, f2, f3, f4, f5⟩ := hf it (by simp)
    refine wpAny_pyNext_list_item st p.isList (x := u) (by simpa using hu) fun h' st' sb => ?_
    have I1 : Inv X pins σ H { s with heap := h' } := I.turned (t' := s.toks) (fun b o hb e => (sb.2 b hb).trans e) f0 f1 f3 f4 f5
    obtain ⟨o, e, c, d⟩ := id st'
    exact ⟨u, rfl, go_of (s := { s with heap := h' }) e c d (by decide) ⟨x, H, I1, ru, ⟨rfl, fun ys hy => by rw [I.list_inj hy hq]; exact hx⟩, st', fun b hb => (hf b hb).1⟩⟩
  done := by
    intro X hP hw hK hc i pins s σ H E I hf st hg
    subst hP hw hK
    obtain ⟨xs, hq, hx⟩ := hg
    obtain ⟨its, rv, p, hz⟩ := I.list hq
    obtain ⟨f0, f1, f2, f3, f4, f5⟩ := hf it (by simp)
    have hl := rv.length
    exact wpAny_pyNext_list_end (I.ok.hd hc) st p.isList (by simp; omega) fun h' eb => ⟨rfl, I.turned (t' := s.toks) (fun b o hb e => eb b o hb e) f0 f1 f3 f4 f5⟩
  self := fun _ _ _ _ _ st h => wpAny_pyIter_listiter st h
theorem turn_range {P : Program} {w : World} {K : PySem.W.Frag} {tg : Expr} (it : Addr) (lo : Int) (n : Nat) : Turn P w K tg (Itr lo n) [it] it (fun i h => IsRangeIter h it (lo + (i : Nat) * 1) ((n : Int) - (i : Nat)) 1) where
  mem := by simp
  obj := fun i h st b hb => by
    have e : b = it := by simpa using hb
    subst e
    exact ⟨_, st, fun v z => by
      have z' : Data.fields _ = Data.cell v := z
      cases z'⟩
  keep := fun i h h' st k => k it (by simp) _ st
  item := by
    intro X hP hw hK hc i pins s σ H E I hf st hg
    subst hP hw hK
    obtain ⟨f0, f1, f2, f3, f4, f5⟩ := hf it (by simp)
    have W := Walks.range (prog := X.prog) (w := X.w) (I.ok.hd hc) it lo 1 n
    refine W.item i s _ _ hg st fun v h' tk hv st' kk => ?_
    obtain ⟨t, rfl⟩ := hv
    have I1 : Inv X pins σ H { s with heap := h', toks := tk } := I.turned (fun b o hb e => kk b o (by simpa using hb) e) f0 f1 f3 f4 f5
    refine ⟨_, rfl, go_of (s := { s with heap := h', toks := tk }) (n := "range_iterator") st' rfl rfl (by decide) ⟨.int (lo + i), H, I1, ⟨t, ?_⟩, ⟨rfl, rfl⟩, st', fun b hb => (hf b hb).1⟩⟩
    rw [Int.mul_one]
  done := by
    intro X hP hw hK hc i pins s σ H E I hf st hg
    subst hP hw hK
    obtain ⟨f0, f1, f2, f3, f4, f5⟩ := hf it (by simp)
    exact wpAny_pyNext_range_end (I.ok.hd hc) st (by have : n ≤ i := hg; omega) fun h' eb => ⟨rfl, I.turned (t' := s.toks) (fun b o hb e => eb b o hb e) f0 f1 f3 f4 f5⟩
  self := fun _ _ _ _ _ st h => wpAny_pyIter_rangeiter st h
end L2

namespace L2
open PySem PySem.Spec PyProof.Rows
section
variable {X : Cx} {tg : Expr}
def iList (K : PySem.W.Frag) (tl : TE) : TI := fun σ H R => tl σ H fun x H1 => ∃ a, x = .ref a ∧ (∃ xs, SqL K H1 a xs) ∧ R (Itl K a) H1
theorem pi_list {l : Expr} {tl : TE} (hl : PE X l tl) : PI X tg l (iList X.K tl) := by
  intro pins s σ H R I h
  refine thn (hl pins s σ H _ I h) fun v s1 ⟨x, H1, I1, r1, q1⟩ => ?_
  obtain ⟨a, e, ⟨xs, hq⟩, q⟩ := q1
  subst e
  cases r1
  obtain ⟨its, rv, p, hz⟩ := I1.list hq
  refine wpAny_pyIter_list p.isList ?_
  refine ⟨s1.heap.objs.size, [s1.heap.objs.size], _, _, H1, rfl, I1.kept (t' := s1.toks) fun b o e => Heap.get?_push_of_some _ e, turn_list a _, ⟨_, Heap.get?_push_size _ rfl, rfl, rfl⟩, fun b hb => ?_, q⟩
  have e : b = s1.heap.objs.size := by simpa using hb
  subst e
  exact I1.fpOk (Nat.le_refl _) (I1.hok.fresh (Nat.le_refl _))
/-- a range object just made, walked -/
theorem range_it {pins : List (Addr × Obj)} {σ : St} {H : Hp} {s : Shared} {R : It → Hp → Prop} {E : Value → Shared → Prop} {lo hi : Int} {t u v : Tok} {tk : Nat} (I : Inv X pins σ H s) (h1 : -(2 ^ 62) ≤ lo) (h2 : lo < 2 ^ 62) (h3 : -(2 ^ 62) ≤ hi) (h4 : hi < 2 ^ 62)
    (q : R (Itr lo (hi - lo).toNat) H) : wpAny (model X.prog X.w) X.A (pyIter (.ref s.heap.objs.size)) (PIE X pins σ tg R) E { s with heap := s.heap.push { cls := .type "range", data := .fields #[.int lo t, .int hi u, .int 1 v] }, toks := tk } := by
  refine wpAny_pyIter_range (IsRange.new ..) (small_one h1 h2 h3 h4) ?_
  have I1 : Inv X pins σ H { s with heap := s.heap.push { cls := .type "range", data := .fields #[.int lo t, .int hi u, .int 1 v] }, toks := tk } := I.kept fun b o e => Heap.get?_push_of_some _ e
  refine ⟨(s.heap.push { cls := .type "range", data := .fields #[.int lo t, .int hi u, .int 1 v] }).objs.size, [(s.heap.push { cls := .type "range", data := .fields #[.int lo t, .int hi u, .int 1 v] }).objs.size], _, _, H, rfl,
    I1.kept (t' := tk) fun b o e => Heap.get?_push_of_some _ e, turn_range _ lo (hi - lo).toNat, ?_, fun b hb => ?_, q⟩
  · have e1 : lo + ((0 : Nat) : Int) * 1 = lo := by simp
    have e2 : (((hi - lo).toNat : Nat) : Int) - ((0 : Nat) : Int) = Builtin.Range.rangeSize lo hi 1 := by rw [rangeSize_one]; split <;> omega
    show IsRangeIter _ _ (lo + ((0 : Nat) : Int) * 1) ((((hi - lo).toNat : Nat) : Int) - ((0 : Nat) : Int)) 1
    rw [e1, e2]
    exact Heap.get?_push_size _ rfl
  · have e : b = (s.heap.push { cls := .type "range", data := .fields #[.int lo t, .int hi u, .int 1 v] }).objs.size := by simpa using hb
    subst e
    exact I1.fpOk (Nat.le_refl _) (I1.hok.fresh (Nat.le_refl _))
def iRng1 (ta : TA) : TI := fun σ H R => ta σ H fun vs H1 => ∃ j : Int, vs = [.int j] ∧ -(2 ^ 62) ≤ j ∧ j < 2 ^ 62 ∧ R (Itr 0 j.toNat) H1
theorem pi_range1 {a : Expr} {ta : TA} {p pos : Pos} (hg : Gl X "range") (hm : X.mg "range" = none) (ha : PA X [a] ta) (hs : starEach [a] X.env = [(false, eval a X.env)] := by rfl) : PI X tg (.Call (.Name "range" p) [a] [] pos) (iRng1 ta) := by
  intro pins s σ H R I h
  refine Call_ (ld_blt I hg hm boot_range (PyProof.Rows.callWith_type1 (thn (ha pos pins s σ H _ I h) fun us s1 ⟨vs, H1, I1, r1, q1⟩ => ?_) hs rfl))
  obtain ⟨j, e, q1, q2, q⟩ := q1
  subst e
  cases r1 with
  | cons r rr =>
    cases rr
    obtain ⟨t, rfl⟩ := r
    exact call_range_1 (range_it I1 (by omega) (by omega) q1 q2 (by simpa using q))
/-! ### for -/
/-- W: the invariant by the turn and a measure; N: what the body is to reach -/
def tFor (wi : TI) (g : TG) (tb : TS) : TS := fun D σ H => wi σ H fun J H1 => ∃ W : Nat → Nat → St → Hp → Prop, (∃ m, W 0 m σ H1) ∧ ∀ i m σ H, W i m σ H →
  (J.stop i H ∧ D.nx σ H) ∨ (J.go i H ∧ ∃ N : St → Hp → Prop, (∀ σ' H', N σ' H' → ∃ m', m' < m ∧ W (i + 1) m' σ' H') ∧ ∀ x H', J.yld i H x H' → g x σ H' fun σ2 H2 => tb { D with nx := N, ct := N, bk := D.nx } σ2 H2)
/-- the records at fp as they stand -/
def pinsAt (fp : List Addr) (h : Heap) : List (Addr × Obj) := fp.filterMap fun b => (h.get? b).map fun o => (b, o)
theorem mem_pinsAt {fp : List Addr} {h : Heap} {b : Addr} {o : Obj} (hb : b ∈ fp) (e : h.get? b = some o) : (b, o) ∈ pinsAt fp h := List.mem_filterMap.mpr ⟨b, hb, by rw [e]; rfl⟩
theorem of_pinsAt {fp : List Addr} {h : Heap} {p : Addr × Obj} (hp : p ∈ pinsAt fp h) : p.1 ∈ fp ∧ h.get? p.1 = some p.2 := by
  obtain ⟨b, hb, e⟩ := List.mem_filterMap.mp hp
  cases q : h.get? b with
  | none => rw [q] at e; cases e
  | some o =>
    rw [q] at e
    have e' : (b, o) = p := Option.some.inj e
    subst e'
    exact ⟨hb, q⟩
theorem Inv.pinned {pins : List (Addr × Obj)} {σ : St} {H : Hp} {s : Shared} {fp : List Addr} (I : Inv X pins σ H s) (hf : ∀ b ∈ fp, FpOk X pins H b) (ho : ∀ b ∈ fp, ∃ o, s.heap.get? b = some o ∧ ∀ v, o.data ≠ .cell v) : Inv X (pins ++ pinsAt fp s.heap) σ H s :=
  I.pins_of fun p hp => (List.mem_append.mp hp).elim (fun z => I.pin p (List.mem_append_right _ z)) fun z => by
    obtain ⟨hb, e⟩ := of_pinsAt z
    obtain ⟨f0, f1, f2, _⟩ := hf p.1 hb
    obtain ⟨o, e', d⟩ := ho p.1 hb
    rw [e] at e'; cases e'
    exact ⟨e, f0, f1, f2, d⟩
theorem Inv.unpinned {pins pl : List (Addr × Obj)} {σ : St} {H : Hp} {s : Shared} (I : Inv X (pins ++ pl) σ H s) : Inv X pins σ H s := I.pins_of fun p hp => I.pin p (List.mem_append_right _ (List.mem_append_left _ hp))
theorem ps_for {iter : Expr} {body : List Stmt} {wi : TI} {g : TG} {tb : TS} {pos : Pos} (hp : PassesOwn (model X.prog X.w) X.A X.env X.xe) (hc : X.calm = true) (hi : PI X tg iter wi) (hg : PG X tg g) (hb : PSs X body tb)
    (hs : ∀ x, foldedSetIterable iter X.env x = pure x := by intro _; rfl) : PS X (.For tg iter body [] pos) (tFor wi g tb) := by
  intro pins s σ H D I h
  refine wpAny_For (thn (hi pins s σ H _ I h) fun v s1 h1 => thn h1 fun itv s2 h2 => ?_) hs
  obtain ⟨it, fp, tn, J, H2, e, I2, T, st2, f2, W, ⟨m0, w0⟩, turn⟩ := h2
  subst e
  -- what stays true of the iterator's objects through the loop
  have stat : ∀ {H' : Hp}, (∀ b ∈ fp, H' b = none) → ∀ b ∈ fp, FpOk X pins H' b := fun hn b hb => ⟨hn b hb, (f2 b hb).2⟩
  refine codeAny_forLoop_any (fun n s' => ∃ i σ' H', Inv X pins σ' H' s' ∧ tn i s'.heap ∧ (∀ b ∈ fp, H' b = none) ∧ W i n σ' H') ?_ m0 ⟨0, σ, H2, I2, st2, fun b hb => (f2 b hb).1, w0⟩
  rintro n s3 ⟨i, σ3, H3, I3, st3, fr3, w3⟩
  rcases turn i n σ3 H3 w3 with ⟨stop, qn⟩ | ⟨go, N, hN, step⟩
  · refine wpAny_passesOwn hp (thn (T.done X rfl rfl rfl hc i pins s3 σ3 H3 X.xe I3 (stat fr3) st3 stop) fun r s4 ⟨hr, I4⟩ => ?_)
    subst hr
    exact wpAny_execs_nil ⟨σ3, H3, I4, qn⟩
  · refine wpAny_passesOwn hp (thn (T.item X rfl rfl rfl hc i pins s3 σ3 H3 X.xe I3 (stat fr3) st3 go) fun r s4 ⟨u, hr, h4⟩ => ?_)
    subst hr
    refine wpAny_passesOwn hp (thn h4 fun _ s5 ⟨x, H5, I5, r5, y5, st5, fr5⟩ => ?_)
    have I5' := I5.pinned (stat fr5) (T.obj _ _ st5)
    refine wpAny_passesOwn hp (thn (hg _ s5 σ3 H5 x u _ I5' r5 (step x H5 y5)) fun _ s6 ⟨σ6, H6, I6, q6⟩ => ?_)
    refine wpAny_passesOwn hp (thn (hb _ s6 σ6 H6 _ I6 q6) fun f s7 q7 => ?_)
    have again : ∀ {σ7 : St} {H7 : Hp}, Inv X (pins ++ pinsAt fp s5.heap) σ7 H7 s7 → N σ7 H7 → ∃ m, m < n ∧ ∃ i σ' H', Inv X pins σ' H' s7 ∧ tn i s7.heap ∧ (∀ b ∈ fp, H' b = none) ∧ W i m σ' H' := fun {σ7 H7} I7 n7 => by
      obtain ⟨m', hm, w7⟩ := hN σ7 H7 n7
      refine ⟨m', hm, i + 1, σ7, H7, I7.unpinned, T.keep _ _ _ st5 fun b hb o e => (I7.pin (b, o) (List.mem_append_right _ (List.mem_append_right _ (mem_pinsAt hb e)))).1, fun b hb => ?_, w7⟩
      obtain ⟨o, e, d⟩ := T.obj _ _ st5 b hb
      exact (I7.pin (b, o) (List.mem_append_right _ (List.mem_append_right _ (mem_pinsAt hb e)))).2.1
    cases f with
    | next => obtain ⟨σ7, H7, I7, n7⟩ := q7; exact again I7 n7
    | cont => obtain ⟨σ7, H7, I7, n7⟩ := q7; exact again I7 n7
    | brk => obtain ⟨σ7, H7, I7, q7⟩ := q7; exact ⟨σ7, H7, I7.unpinned, q7⟩
    | ret v => obtain ⟨x7, σ7, H7, I7, r7, q7⟩ := q7; exact ⟨x7, σ7, H7, I7.unpinned, r7, q7⟩
end

/-! ### the forms one uses -/
end L2

namespace L2
open PySem PySem.Spec PyProof.Rows

abbrev R2 := V → V → Hp → VK → Prop
/-- a two-place operation on values: f is binaryOp op, inplaceOp op or compareOp op -/
def OpR (X : Cx) (f : Value → Value → Sem Value) (r : R2) : Prop :=
  ∀ (pins : List (Addr × Obj)) (s : Shared) (σ : St) (H : Hp) (x y : V) (v u : Value) (Q : VK), Inv X pins σ H s → RelV x v → RelV y u → r x y H Q →
    wpAny (model X.prog X.w) X.A (f v u) (EP X pins σ Q) X.xe s
/-- a one-place operation -/
def UnR (X : Cx) (f : Value → Sem Value) (r : V → Hp → VK → Prop) : Prop :=
  ∀ (pins : List (Addr × Obj)) (s : Shared) (σ : St) (H : Hp) (x : V) (v : Value) (Q : VK), Inv X pins σ H s → RelV x v → r x H Q →
    wpAny (model X.prog X.w) X.A (f v) (EP X pins σ Q) X.xe s
/-- a call of a value that is known (a builtin, a type) with values -/
def CallR (X : Cx) (f : Value) (r : List V → Hp → VK → Prop) : Prop :=
  ∀ (pins : List (Addr × Obj)) (s : Shared) (σ : St) (H : Hp) (xs : List V) (us : List Value) (Q : VK), Inv X pins σ H s → Vals xs us → r xs H Q →
    wpAny (model X.prog X.w) X.A (call f us) (EP X pins σ Q) X.xe s
/-- a value's truth -/
def TruR (X : Cx) (r : V → Hp → (Bool → Hp → Prop) → Prop) : Prop :=
  ∀ (pins : List (Addr × Obj)) (s : Shared) (σ : St) (H : Hp) (x : V) (v : Value) (Q : Bool → Hp → Prop), Inv X pins σ H s → RelV x v → r x H Q →
    wpAny (model X.prog X.w) X.A (truthy v) (TP X pins σ Q) X.xe s

def tOp (r : R2) (ta tb : TE) : TE := fun σ H Q => ta σ H fun x H1 => tb σ H1 fun y H2 => r x y H2 Q
def tUn (r : V → Hp → VK → Prop) (ta : TE) : TE := fun σ H Q => ta σ H fun x H1 => r x H1 Q
/-- ints in, under C, and a value out -/
def rI (C : Int → Int → Prop) (g : Int → Int → V) : R2 := fun x y H Q => ∃ i j, x = .int i ∧ y = .int j ∧ C i j ∧ Q (g i j) H
def rI0 (g : Int → Int → V) : R2 := fun x y H Q => ∃ i j, x = .int i ∧ y = .int j ∧ Q (g i j) H
def rU (g : Int → V) : V → Hp → VK → Prop := fun x H Q => ∃ i, x = .int i ∧ Q (g i) H

section
variable {X : Cx} {a b c : Expr} {ta tb tc : TE} {pos : Pos}

theorem binT (ha : PE X a ta) (hb : PE X b tb) {pins : List (Addr × Obj)} {s : Shared} {σ : St} {H : Hp} {R : V → V → Hp → Prop} (I : Inv X pins σ H s)
    (h : ta σ H fun x H1 => tb σ H1 fun y H2 => R x y H2) {Q : Value → Shared → Prop} {f : Value → Value → Sem Value}
    (hf : ∀ v u s2 x y H2, Inv X pins σ H2 s2 → RelV x v → RelV y u → R x y H2 → wpAny (model X.prog X.w) X.A (f v u) Q X.xe s2) :
    wpAny (model X.prog X.w) X.A (eval a X.env) (fun v s₁ => wpAny (model X.prog X.w) X.A (eval b X.env) (fun u s₂ => wpAny (model X.prog X.w) X.A (f v u) Q X.xe s₂) X.xe s₁) X.xe s := by
  refine thn (ha pins s σ H _ I h) fun v s1 ⟨x, H1, I1, r1, q1⟩ => ?_
  refine thn (hb pins s1 σ H1 _ I1 q1) fun u s2 ⟨y, H2, I2, r2, q2⟩ => ?_
  exact hf v u s2 x y H2 I2 r1 r2 q2

theorem pe_op {op : Operator} {r : R2} (ho : OpR X (binaryOp op) r) (ha : PE X a ta) (hb : PE X b tb) : PE X (.BinOp a op b pos) (tOp r ta tb) := by
  intro pins s σ H Q I h
  exact wpAny_BinOp (binT ha hb I h fun v u s2 x y H2 I2 rx ry q => ho pins s2 σ H2 x y v u Q I2 rx ry q)
theorem pe_un {op : UnaryOp} {r : V → Hp → VK → Prop} (ho : UnR X (unaryOp op) r) (ha : PE X a ta) : PE X (.UnaryOp op a pos) (tUn r ta) := by
  intro pins s σ H Q I h
  exact UnaryOp_ (thn (ha pins s σ H _ I h) fun v s1 ⟨x, H1, I1, r1, q1⟩ => ho pins s1 σ H1 x v Q I1 r1 q1)
/-! ### ints -/
theorem opI {f : Value → Value → Sem Value} {C : Int → Int → Prop} {g : Int → Int → Int}
    (rule : ∀ (i j : Int) (t u : Tok) (s : Shared) (Q : Value → Shared → Prop) (E : Value → Shared → Prop), C i j → Q (.int (g i j) s.toks) { s with toks := s.toks + 1 } → wpAny (model X.prog X.w) X.A (f (.int i t) (.int j u)) Q E s) :
    OpR X f (rI C fun i j => .int (g i j)) := by
  intro pins s σ H x y v u Q I rx ry h
  obtain ⟨i, j, rfl, rfl, hc, q⟩ := h
  obtain ⟨t, rfl⟩ := rx
  obtain ⟨t', rfl⟩ := ry
  exact rule i j t t' s _ _ hc ⟨.int (g i j), H, I.tok _, ⟨_, rfl⟩, q⟩
theorem opI0 {f : Value → Value → Sem Value} {g : Int → Int → Int}
    (rule : ∀ (i j : Int) (t u : Tok) (s : Shared) (Q : Value → Shared → Prop) (E : Value → Shared → Prop), Q (.int (g i j) s.toks) { s with toks := s.toks + 1 } → wpAny (model X.prog X.w) X.A (f (.int i t) (.int j u)) Q E s) :
    OpR X f (rI0 fun i j => .int (g i j)) := by
  intro pins s σ H x y v u Q I rx ry h
  obtain ⟨i, j, rfl, rfl, q⟩ := h
  obtain ⟨t, rfl⟩ := rx
  obtain ⟨t', rfl⟩ := ry
  exact rule i j t t' s _ _ ⟨.int (g i j), H, I.tok _, ⟨_, rfl⟩, q⟩
theorem opB0 {f : Value → Value → Sem Value} {g : Int → Int → Bool}
    (rule : ∀ (i j : Int) (t u : Tok) (s : Shared) (Q : Value → Shared → Prop) (E : Value → Shared → Prop), Q (.bool (g i j)) s → wpAny (model X.prog X.w) X.A (f (.int i t) (.int j u)) Q E s) :
    OpR X f (rI0 fun i j => .bl (g i j)) := by
  intro pins s σ H x y v u Q I rx ry h
  obtain ⟨i, j, rfl, rfl, q⟩ := h
  obtain ⟨t, rfl⟩ := rx
  obtain ⟨t', rfl⟩ := ry
  exact rule i j t t' s _ _ ⟨.bl (g i j), H, I, rfl, q⟩

def CPow (i j : Int) : Prop := 0 ≤ j ∧ j ≤ 1000000 ∧ i.natAbs < 2 ^ 64
theorem op_add : OpR X (binaryOp .Add) (rI0 fun i j => .int (i + j)) := opI0 fun _ _ _ _ _ _ _ q => add_int q
theorem op_sub : OpR X (binaryOp .Sub) (rI0 fun i j => .int (i - j)) := opI0 fun _ _ _ _ _ _ _ q => sub_int q
/-- % by a positive divisor of any size -/
theorem op_mod : OpR X (binaryOp .Mod) (rI (fun _ j => 0 < j) fun i j => .int (i % j)) := opI fun i j _ _ _ _ _ hc q => by
  have h1 : (0 : Int) < j := hc
  exact mod_int' (by omega) (by rw [Int.fmod_eq_emod_of_nonneg i (by omega)]; exact q)
theorem op_pow : OpR X (binaryOp .Pow) (rI CPow fun i j => .int (i ^ j.toNat)) := opI fun _ _ _ _ _ _ _ hc q => pow_int_small hc.1 hc.2.1 hc.2.2 q
theorem unI {f : Value → Sem Value} {g : Int → Int}
    (rule : ∀ (i : Int) (t : Tok) (s : Shared) (Q : Value → Shared → Prop) (E : Value → Shared → Prop), Q (.int (g i) s.toks) { s with toks := s.toks + 1 } → wpAny (model X.prog X.w) X.A (f (.int i t)) Q E s) :
    UnR X f (rU fun i => .int (g i)) := by
  intro pins s σ H x v Q I rx h
  obtain ⟨i, rfl, q⟩ := h
  obtain ⟨t, rfl⟩ := rx
  exact rule i t s _ _ ⟨.int (g i), H, I.tok _, ⟨_, rfl⟩, q⟩
theorem un_neg : UnR X (unaryOp .USub) (rU fun i => .int (-i)) := unI fun _ _ _ _ _ q => neg_int q
end

/-! ### comparisons -/
section
variable {X : Cx} {a b c : Expr} {ta tb tc : TE} {pos : Pos}
theorem fin_bl {pins : List (Addr × Obj)} {σ : St} {H : Hp} {s : Shared} {Q : VK} {k k' : Bool} (I : Inv X pins σ H s) (q : Q (.bl k) H) (e : k = k') : EP X pins σ Q (.bool k') s := by
  subst e
  exact ⟨.bl k, H, I, rfl, q⟩
theorem op_lt : OpR X (compareOp .Lt) (rI0 fun i j => .bl (decide (i < j))) := opB0 fun _ _ _ _ _ _ _ q => lt_int q
theorem op_le : OpR X (compareOp .LtE) (rI0 fun i j => .bl (decide (i ≤ j))) := opB0 fun _ _ _ _ _ _ _ q => le_int q
theorem op_gt : OpR X (compareOp .Gt) (rI0 fun i j => .bl (decide (j < i))) := opB0 fun _ _ _ _ _ _ _ q => gt_int q
theorem op_ge : OpR X (compareOp .GtE) (rI0 fun i j => .bl (decide (j ≤ i))) := opB0 fun _ _ _ _ _ _ _ q => ge_int q
/-- the one string within the other -/
theorem op_in_str : OpR X (compareOp .In) (fun x y H Q => ∃ i j, x = .str i ∧ y = .str j ∧ Q (.bl (!(Builtin.Str.occurrences j i 0 j.length 1).isEmpty)) H) := by
  intro pins s σ H x y v u Q I rx ry h
  obtain ⟨i, j, rfl, rfl, q⟩ := h
  obtain ⟨t, rfl⟩ := rx
  obtain ⟨t', rfl⟩ := ry
  exact in_str (fin_bl I q rfl)

/-- is None, is not None: the right side a value none -/
theorem op_isN : OpR X (compareOp .Is) (fun x y H Q => y = .non ∧ Q (.bl (decide (x = .non))) H) := by
  intro pins s σ H x y v u Q I rx ry h
  obtain ⟨rfl, q⟩ := h
  cases ry
  refine is_none_gen (fin_bl I q ?_)
  cases x <;> first
    | (cases rx; rfl)
    | (obtain ⟨t, rfl⟩ := rx; rfl)
theorem op_notin_str : OpR X (compareOp .NotIn) (fun x y H Q => ∃ i j, x = .str i ∧ y = .str j ∧ Q (.bl (!(!(Builtin.Str.occurrences j i 0 j.length 1).isEmpty))) H) := by
  intro pins s σ H x y v u Q I rx ry h
  obtain ⟨i, j, rfl, rfl, q⟩ := h
  obtain ⟨t, rfl⟩ := rx
  obtain ⟨t', rfl⟩ := ry
  exact notIn_str (fin_bl I q rfl)
theorem nomark (b : Expr) {op : CmpOp} (h : op ≠ .In := by decide) (h2 : op ≠ .NotIn := by decide) : behindInMarks op b = false := by
  have e1 : (op == CmpOp.In) = false := by cases op <;> first | rfl | exact absurd rfl h
  have e2 : (op == CmpOp.NotIn) = false := by cases op <;> first | rfl | exact absurd rfl h2
  cases b <;> simp [behindInMarks, e1, e2]
/-- a comparison as a value; hm: nomark b, or (for in, not in) by with_unfolding_all rfl -/
theorem pe_cmpR {op : CmpOp} {r : R2} (ho : OpR X (compareOp op) r) (ha : PE X a ta) (hb : PE X b tb) (hm : behindInMarks op b = false) : PE X (.Compare a [op] [b] pos) (tOp r ta tb) := by
  intro pins s σ H Q I h
  exact wpAny_Compare1 (binT ha hb I h fun v u s2 x y H2 I2 rx ry q => ho pins s2 σ H2 x y v u Q I2 rx ry q) hm
/-- a reading of a value as a test -/
def tTest (t : TE) : TT := fun σ H Q => t σ H fun x H' => ∃ k, x = .bl k ∧ Q k H'
theorem pt_cmpR {op : CmpOp} {r : R2} (ho : OpR X (compareOp op) r) (ha : PE X a ta) (hb : PE X b tb) (hm : behindInMarks op b = false) : PT X (.Compare a [op] [b] pos) (tTest (tOp r ta tb)) := by
  intro pins s σ H Q I h
  refine wpAny_isTrue_Compare1 (thn (ha pins s σ H _ I h) fun v s1 ⟨x, H1, I1, r1, q1⟩ => thn (hb pins s1 σ H1 _ I1 q1) fun u s2 ⟨y, H2, I2, r2, q2⟩ =>
    thn (ho pins s2 σ H2 x y v u _ I2 r1 r2 q2) fun c s3 ⟨z, H3, I3, r3, k, e, q3⟩ => ?_) hm
  subst e
  cases r3
  exact wpAny_truthy_bool ⟨H3, I3, q3⟩
/-- a op1 b op2 c -/
def tChain (r r' : R2) (ta tb tc : TE) : TE := fun σ H Q => ta σ H fun x H1 => tb σ H1 fun y H2 => r x y H2 fun z H3 => ∃ k, z = .bl k ∧
  (if k = true then tc σ H3 fun w' H4 => r' y w' H4 Q else Q (.bl false) H3)
theorem pt_chain {op op' : CmpOp} {r r' : R2} (ho : OpR X (compareOp op) r) (ho' : OpR X (compareOp op') r') (ha : PE X a ta) (hb : PE X b tb) (hc : PE X c tc)
    (hm : lastMarks [op, op'] [b, c] = false := by with_unfolding_all rfl) : PT X (.Compare a [op, op'] [b, c] pos) (tTest (tChain r r' ta tb tc)) := by
  intro pins s σ H Q I h
  refine isTrue_chain (thn (ha pins s σ H _ I h) fun v s1 ⟨x, H1, I1, r1, q1⟩ => test_link (thn (hb pins s1 σ H1 _ I1 q1) fun u s2 ⟨y, H2, I2, r2, q2⟩ =>
    thn (ho pins s2 σ H2 x y v u _ I2 r1 r2 q2) fun d s3 ⟨z, H3, I3, r3, k, e, q3⟩ => ?_)) hm
  subst e
  cases r3
  refine wpAny_truthy_bool ?_
  cases k with
  | false =>
    obtain ⟨k', e', q'⟩ := q3
    cases e'
    exact ite_ff ⟨H3, I3, q'⟩
  | true =>
    refine ite_tt (test_last (thn (hc pins s3 σ H3 _ I3 q3) fun w' s4 ⟨z', H4, I4, r4, q4⟩ => thn (ho' pins s4 σ H4 y z' u w' _ I4 r2 r4 q4) fun d' s5 ⟨z2, H5, I5, r5, k2, e2, q5⟩ => ?_))
    subst e2
    cases r5
    exact wpAny_truthy_bool ⟨H5, I5, q5⟩

/-! ### truth -/
/-- a value's truth by the abstract heap -/
def TruV (K : PySem.W.Frag) (x : V) (H : Hp) (k : Bool) : Prop :=
  match x with
  | .non => k = false
  | .bl b => k = b
  | .int i => k = (i != 0)
  | .str y => y.length ≤ sizeLine ∧ k = ((y.length : Int) != 0)
  | .byt y => y.size ≤ sizeLine ∧ k = ((y.size : Int) != 0)
  | .ref p => (∃ xs, SqL K H p xs ∧ k = !xs.isEmpty) ∨ (∃ xs, SqT K H p xs ∧ k = !xs.isEmpty) ∨ ∃ kvs, H p = some (.dK kvs) ∧ k = !kvs.isEmpty
  | _ => False
theorem isEmpty_kv {κ : Type} {kvs : List (κ × V)} {vs : List (κ × Value)} (r : KV kvs vs) : (!vs.isEmpty) = !kvs.isEmpty := by
  cases r <;> rfl
theorem isEmpty_of {xs : List V} {its : List Value} (r : Vals xs its) : (!its.toArray.isEmpty) = !xs.isEmpty := by
  cases r <;> simp
theorem line63 : (sizeLine : Nat) < 2 ^ 63 := by rw [sizeLine_eq]; decide
theorem tru_ok : TruR X (fun x H Q => ∃ k, TruV X.K x H k ∧ Q k H) := by
  intro pins s σ H x v Q I rx h
  obtain ⟨k, e, q⟩ := h
  have hl := line63
  have hs : sizeLine = 16777216 := sizeLine_eq
  cases x with
  | non =>
    cases rx
    have e' : k = false := e
    subst e'
    exact truthy_none ⟨H, I, q⟩
  | bl b =>
    cases rx
    have e' : k = b := e
    subst e'
    exact wpAny_truthy_bool ⟨H, I, q⟩
  | int i =>
    obtain ⟨t, rfl⟩ := rx
    have e' : k = (i != 0) := e
    subst e'
    exact PySem.P.truthy_int ⟨H, I, q⟩
  | str y =>
    obtain ⟨t, rfl⟩ := rx
    obtain ⟨hy, e'⟩ : y.length ≤ sizeLine ∧ k = ((y.length : Int) != 0) := e
    subst e'
    exact PySem.P.truthy_str (by omega) ⟨H, I.tok _, q⟩
  | byt y =>
    obtain ⟨t, rfl⟩ := rx
    obtain ⟨hy, e'⟩ : y.size ≤ sizeLine ∧ k = ((y.size : Int) != 0) := e
    subst e'
    exact PySem.W.truthy_bytes (by omega) ⟨H, I.tok _, q⟩
  | ref p =>
    cases rx
    have e' : (∃ xs, SqL X.K H p xs ∧ k = !xs.isEmpty) ∨ (∃ xs, SqT X.K H p xs ∧ k = !xs.isEmpty) ∨ ∃ kvs, H p = some (.dK kvs) ∧ k = !kvs.isEmpty := e
    rcases e' with ⟨xs, hx, e'⟩ | ⟨xs, hx, e'⟩ | ⟨kvs, hx, e'⟩
    · subst e'
      obtain ⟨its, r, pl, hz⟩ := I.list hx
      have hlen := r.length
      exact wpAny_truthy_list pl.isList (by simp only [List.size_toArray]; omega) ⟨H, I.tok _, by rw [isEmpty_of r]; exact q⟩
    · subst e'
      obtain ⟨its, r, pl, hz⟩ := I.tuple hx
      have hlen := r.length
      exact truthy_tuple pl (by simp only [List.size_toArray]; omega) ⟨H, I.tok _, by rw [isEmpty_of r]; exact q⟩
    · subst e'
      obtain ⟨hz, hS, vs, r, m⟩ : kvs.length ≤ sizeLine ∧ (p == sysModules) = false ∧ ∃ vs, KV kvs vs ∧ s.heap.DictOf (mixKind X.prog X.w) p vs := I.hok p _ hx
      have hlen : kvs.length = vs.length := Paired.length r
      exact wpAny_truthy_dict hS m (by omega) ⟨H, I.tok _, by rw [isEmpty_kv r]; exact q⟩
  | _ => exact (show False from e).elim
/-- any expression whose test is its value's truth (a name, a call, a subscript, a field ..: he by fun _ => rfl) -/
theorem pt_truth (ha : PE X a ta) (he : ∀ whole, isTrue a X.env whole = (do let v ← whole; standAt a.pos; holding [v] (truthy v))) :
    PT X a (fun σ H Q => ta σ H fun x H' => ∃ k, TruV X.K x H' k ∧ Q k H') := by
  intro pins s σ H Q I h
  exact isTrue_plain (thn (ha pins s σ H _ I h) fun v s1 ⟨x, H1, I1, r1, q1⟩ => tru_ok pins s1 σ H1 x v Q I1 r1 q1) (he _)

theorem op_add_str : OpR X (binaryOp .Add) (fun x y H Q => ∃ i j, x = .str i ∧ y = .str j ∧ i.length + j.length ≤ sizeLine ∧ Q (.str (i ++ j)) H) := by
  intro pins s σ H x y v u Q I rx ry h
  obtain ⟨i, j, rfl, rfl, hz, q⟩ := h
  obtain ⟨t, rfl⟩ := rx
  obtain ⟨t', rfl⟩ := ry
  exact add_str (fun t' tk => ⟨.str (i ++ j), H, I.tok _, ⟨_, rfl⟩, q⟩) hz
/-! ### scalar builtins, by CallR -/
theorem vals1 {x : V} {us : List Value} (r : Vals [x] us) : ∃ u, us = [u] ∧ RelV x u := by
  cases r with
  | cons r1 r2 => cases r2; exact ⟨_, rfl, r1⟩
theorem vals2 {x y : V} {us : List Value} (r : Vals [x, y] us) : ∃ u w', us = [u, w'] ∧ RelV x u ∧ RelV y w' := by
  cases r with
  | cons r1 r2 =>
    cases r2 with
    | cons r3 r4 => cases r4; exact ⟨_, _, rfl, r1, r3⟩
theorem call_abs : CallR X (.builtin "abs") (fun xs H Q => ∃ i, xs = [.int i] ∧ Q (.int (if i < 0 then -i else i)) H) := by
  intro pins s σ H xs us Q I r h
  obtain ⟨i, rfl, q⟩ := h
  obtain ⟨u, rfl, t, rfl⟩ := vals1 r
  exact call_abs_int fun u tk => ⟨.int (if i < 0 then -i else i), H, I.tok _, ⟨_, rfl⟩, q⟩
theorem call_str_int : CallR X (.type "str") (fun xs H Q => ∃ i, xs = [.int i] ∧ i.natAbs.log2 < 1920 ∧ Q (.str (toString i)) H) := by
  intro pins s σ H xs us Q I r h
  obtain ⟨i, rfl, hz, q⟩ := h
  obtain ⟨u, rfl, t, rfl⟩ := vals1 r
  exact PySem.P.str_of_int hz ⟨.str _, H, I.tok _, ⟨_, rfl⟩, q⟩
end
end L2

namespace L2
open PySem PySem.Spec PyProof.Rows

section
variable {prog : Program} {w : World} {A : Around} {E : Value → Shared → Prop} {s : Shared} {K : PySem.W.Frag} {x dx C f : Addr} {mA : Str → Option Value} {name : Str} {v : Value}

end

section
variable {P : Program} {w : World} {H H' : Hp} {h h' : Heap} {a C dx : Addr} {fs fs' : List (Str × V)}
end

section
variable {X : Cx} {pins : List (Addr × Obj)} {σ : St} {H : Hp} {s : Shared} {a C dx : Addr} {fs : List (Str × V)} {f : Str} {v : V} {A : Around} {E : Value → Shared → Prop}

end

/-! ### readings and rules -/
section
variable {X : Cx} {o e value : Expr} {f : Str} {pos pos' tpos : Pos} {ta tv : TE}
end

/-! ### isinstance -/
section
variable {X : Cx} {pins : List (Addr × Obj)} {σ : St} {H : Hp} {s : Shared} {A : Around} {E : Value → Shared → Prop} {Q : Value → Shared → Prop} {c : Value} {b : Bool}
end
end L2

namespace L2
open PySem PySem.Spec PyProof.Rows

/-! ### room -/
structure Room (k : Nat) (A : Around) : Prop where
  hd : A.handled = none
  dp : A.depth + 3 * k + 5 < recursionLimit
  un : A.units + 16 * k + 200 < cLine
theorem Room.mono {j k : Nat} {A : Around} (r : Room k A) (h : j ≤ k) : Room j A := ⟨r.hd, by have := r.dp; omega, by have := r.un; omega⟩
theorem Room.deeper {k : Nat} {A : Around} (r : Room (k + 1) A) (env : Env) : Room k (A.deeper env) :=
  ⟨r.hd, by have := r.dp; show A.depth + 1 + 3 * k + 5 < _; omega, by have := r.un; show A.units + 3 + 16 * k + 200 < _; omega⟩
theorem Room.depth {k : Nat} {A : Around} (r : Room k A) : A.depth < recursionLimit := by have := r.dp; omega
theorem Room.units {k : Nat} {A : Around} (r : Room k A) : A.units + 64 < cLine := by have := r.un; omega
/-! ### argument lists and displays -/
def tNil : TA := fun _ H Q => Q [] H
def tCons (ta : TE) (tr : TA) : TA := fun σ H Q => ta σ H fun x H1 => tr σ H1 fun xs H2 => Q (x :: xs) H2
section
variable {X : Cx} {e : Expr} {es : List Expr} {te : TE} {t : TA} {pos : Pos}
theorem pa_nil : PA X [] tNil := fun _ _ _ _ H Q I h => Calls.spliced_nil ⟨[], H, I, .nil, h⟩
theorem pa_cons (ha : PE X e te) (hr : PA X es t) (hs : starEach (e :: es) X.env = (false, eval e X.env) :: starEach es X.env := by rfl) : PA X (e :: es) (tCons te t) := by
  intro pos pins s σ H Q I h
  rw [hs]
  show wpAny _ _ (spliced ((false, eval e X.env) :: backTo pos (starEach es X.env))) _ _ s
  refine Calls.spliced_cons (thn (ha pins s σ H _ I h) fun u s1 ⟨x, H1, I1, r1, q1⟩ => ?_)
  exact thn (hr pos pins s1 σ H1 _ I1 q1) fun us s2 ⟨xs, H2, I2, r2, q2⟩ => ⟨x :: xs, H2, I2, .cons r1 r2, q2⟩

/-- a tuple, a list of written items -/
def tTup (t : TA) : TE := fun σ H Q => t σ H fun xs H1 => xs.length ≤ sizeLine ∧ ∀ p, H1 p = none → Q (.ref p) (upd H1 p (.tup xs))
def tLst (t : TA) : TE := fun σ H Q => t σ H fun xs H1 => xs.length ≤ sizeLine ∧ ∀ p, H1 p = none → Q (.ref p) (upd H1 p (.lst xs))
theorem pe_tup {x1} (h : PA X es t) : PE X (.Tuple es x1 pos) (tTup t) := by
  intro pins s σ H Q I hq
  refine wpAny_Tuple_spliced (thn (h pos pins s σ H _ I hq) fun us s1 ⟨xs, H1, I1, r, z, q⟩ => ⟨by rw [← r.length]; exact z, ?_⟩)
  have hf : H1 s1.heap.objs.size = none := I1.hok.fresh (Nat.le_refl _)
  refine ⟨.ref s1.heap.objs.size, upd H1 s1.heap.objs.size (.tup xs), I1.laid (t' := s1.toks) (fun b u e => Heap.get?_push_of_some _ e) (Nat.le_refl _) ?_, rfl, q _ hf⟩
  exact ⟨z, us, r, ⟨_, Heap.get?_push_size _ rfl, rfl, _, rfl⟩⟩
theorem pe_lst (h : PA X es t) : PE X (.List es pos) (tLst t) := by
  intro pins s σ H Q I hq
  refine wpAny_List_spliced (thn (h pos pins s σ H _ I hq) fun us s1 ⟨xs, H1, I1, r, z, q⟩ => ⟨by rw [← r.length]; exact z, ?_⟩)
  have hf : H1 s1.heap.objs.size = none := I1.hok.fresh (Nat.le_refl _)
  refine ⟨.ref s1.heap.objs.size, upd H1 s1.heap.objs.size (.lst xs), I1.laid (t' := s1.toks) (fun b u e => Heap.get?_push_of_some _ e) (Nat.le_refl _) ?_, rfl, q _ hf⟩
  exact ⟨z, us, 0, r, Heap.get?_push_size _ rfl⟩
end

/-! ### what a def promises -/
/-- a def's promise: the bound arguments in the parameters' order, the heap, the wanted end, the wanted exception -/
abbrev Sp := List V → Hp → VK → XK → Prop
/-- how an exception lies behind a call (file 08 gives it): the callers' frames, abstract heap and state ahead of the call, the wish, the exception, the state -/
abbrev CXT := List Env → Hp → Shared → XK → Value → Shared → Prop

/-- the state at a call -/
structure Env0 (P : Program) (w : World) (K : PySem.W.Frag) (mg : Str → Option Value) (base : Heap) (A : Around) (outer : List Env) (s : Shared) (H : Hp) : Prop where
  frames : A.frames = some outer
  mod : Mod K mg base
  bs : ∀ b o, base.get? b = some o → s.heap.get? b = some o ∧ H b = none
  bsz : base.objs.size ≤ s.heap.objs.size
  funs : s.heap.FunFrames base outer
  frf : ∀ b ∈ frs outer, H b = none
  hok : HOk P w H s.heap
  bare : AllBare s.gens
  tab : TabsIn K H
/-- a call's end -/
def CE (outer : List Env) (P : Program) (w : World) (H : Hp) (s : Shared) (Q : VK) (u : Value) (s' : Shared) : Prop :=
  ∃ v H', s'.os = s.os ∧ AllBare s'.gens ∧ Un (frs outer) [] H H' s.heap s'.heap ∧ HOk P w H' s'.heap ∧ RelV v u ∧ Q v H'
def CR (CX : CXT) (outer : List Env) (P : Program) (w : World) (H : Hp) (s : Shared) (Q : VK) (E : XK) (r : Result) (s' : Shared) : Prop :=
  match r with
  | .ok (.ret u) => CE outer P w H s Q u s'
  | .ok _ => False
  | .error e => CX outer H s E e s'
structure FnOk (P : Program) (w : World) (K : PySem.W.Frag) (mg : Str → Option Value) (base : Heap) (CX : CXT) (k : Nat) (f : Addr) (fd : FuncData) (ps : List Str) (sp : Sp) : Prop where
  len : ∀ vs H Q E, sp vs H Q E → vs.length = ps.length
  run : ∀ (A : Around) (outer : List Env) (s : Shared) (H : Hp) (args : Args) (us : List Value) (vs : List V) (Q : VK) (E : XK), Room k A → Env0 P w K mg base A outer s H → BindsTo s fd args (ps.zip us) → Vals vs us → sp vs H Q E →
    codeAny (model P w) A (.call (.ref f) args) (CR CX outer P w H s Q E) s
/-- a weaker promise -/
theorem FnOk.imp {P : Program} {w : World} {K : PySem.W.Frag} {mg : Str → Option Value} {base : Heap} {CX : CXT} {k : Nat} {f : Addr} {fd : FuncData} {ps : List Str} {sp sp' : Sp} (F : FnOk P w K mg base CX k f fd ps sp)
    (h : ∀ vs H Q E, sp' vs H Q E → sp vs H Q E) : FnOk P w K mg base CX k f fd ps sp' :=
  ⟨fun vs H Q E q => F.len vs H Q E (h _ _ _ _ q), fun A outer s H args us vs Q E hr he hb hv hs => F.run A outer s H args us vs Q E hr he hb hv (h _ _ _ _ hs)⟩

section
variable {X : Cx} {pins : List (Addr × Obj)} {σ : St} {H : Hp} {s s' : Shared}
/-- from a body: what a callee wants -/
theorem Inv.env0 (I : Inv X pins σ H s) : Env0 X.prog X.w X.K X.mg X.base X.A X.stack s H :=
  ⟨I.ok.frames, I.ok.mod, I.bs, Nat.le_trans I.ok.bsz I.sz, I.stack, I.stkFree, I.hok, I.bare, I.tabs⟩
/-- behind a call -/
theorem Inv.after {Q : VK} {u : Value} (I : Inv X pins σ H s) (h : CE X.stack X.prog X.w H s Q u s') : EP X pins σ Q u s' := by
  obtain ⟨v, H', os, bare, un, hok, r, q⟩ := h
  obtain ⟨hh, g, d, t, os'⟩ := s'
  obtain rfl : os' = s.os := os
  exact ⟨v, H', I.call (h' := hh) (g' := g) (d' := d) (t' := t) (ch := []) un hok bare (fun b z => absurd z (by simp)), r, q⟩
end

/-! ### calls -/
/-- f(..): the written arguments, then the defaults dvs; E: what is wanted of an exception -/
def tCall (sp : Sp) (dvs : List V) (E : XK) (t : TA) : TE := fun σ H Q => t σ H fun vs H1 => sp (vs ++ dvs) H1 Q E
/-- how the parameters are bound: us the positional arguments, kw the keywords' values by name, ds the defaults that fill up -/
def Binds (K : PySem.W.Frag) (fd : FuncData) (ps : List Str) (ds : List Value) : Prop :=
  ∀ (s : Shared) (us : List Value), K.In s.heap → (us ++ ds).length = ps.length → BindsTo s fd ⟨us, []⟩ (ps.zip (us ++ ds))
/-- every parameter is given -/
theorem Binds.all {K : PySem.W.Frag} {fd : FuncData} {ps : List Str} (h : ∀ us : List Value, us.length = ps.length → bindArgs fd ⟨us, []⟩ = pure (ps.zip us)) : Binds K fd ps [] := fun s us _ hl => by
  rw [List.append_nil] at hl ⊢
  exact .of_eq (h us hl)

/-- an exception of a callee reaches what this body wants of exceptions -/
def Passes (CX : CXT) (X : Cx) (E : XK) : Prop := ∀ (pins : List (Addr × Obj)) (σ : St) (H : Hp) (s : Shared) (e : Value) (s' : Shared), Inv X pins σ H s → CX X.stack H s E e s' → X.xe e s'

section
variable {X : Cx} {CX : CXT} {k : Nat} {f C : Addr} {fd : FuncData} {ps : List Str} {sp : Sp} {dvs : List V} {ds : List Value} {E : XK} {x m : Str} {p pos apos : Pos} {e o : Expr} {es : List Expr} {ta : TE} {t : TA}

/-- the callee runs -/
theorem run_fn {pins : List (Addr × Obj)} {σ : St} {H : Hp} {s : Shared} {Q : VK} {us : List Value} {vs : List V} (F : FnOk X.prog X.w X.K X.mg X.base CX k f fd ps sp) (hr : Room k X.A) (hb : Binds X.K fd ps ds) (hd : Vals dvs ds) (hx : Passes CX X E)
    (I : Inv X pins σ H s) (r : Vals vs us) (h : sp (vs ++ dvs) H Q E) : wpAny (model X.prog X.w) X.A (call (.ref f) us) (EP X pins σ Q) X.xe s := by
  have r2 : Vals (vs ++ dvs) (us ++ ds) := r.append hd
  have hl : (us ++ ds).length = ps.length := by rw [← r2.length]; exact F.len _ _ _ _ h
  refine wpAny_call (codeAny_mono (F.run X.A X.stack s H ⟨us, []⟩ (us ++ ds) (vs ++ dvs) Q E hr I.env0 (hb s us I.kIn hl) r2 h) fun r s' hq => ?_)
  cases r with
  | error e => exact hx pins σ H s e s' I hq
  | ok fl =>
    cases fl with
    | ret u => exact I.after hq
    | next => exact False.elim hq
    | brk => exact False.elim hq
    | cont => exact False.elim hq

theorem pe_call (F : FnOk X.prog X.w X.K X.mg X.base CX k f fd ps sp) (hr : Room k X.A) (hg : Gl X x) (hm : X.mg x = some (.ref f)) (hk : PySem.W.keepIn X.K (.ref f) = true) (hb : Binds X.K fd ps ds) (hd : Vals dvs ds) (hx : Passes CX X E)
    (ha : PA X (e :: es) t) (hdb : (x == ("__debug__" : Str)) = false := by decide) (he : starEach (e :: es) X.env = (false, eval e X.env) :: starEach es X.env := by rfl) (hpl : (backTo pos (starEach es X.env)).any (·.1) = false := by rfl) :
    PE X (.Call (.Name x p) (e :: es) [] pos) (tCall sp dvs E t) := by
  intro pins s σ H Q I h
  refine wpAny_Call_Name_kw (ld_glob I hg hm ?_ hdb)
  refine PySem.W.callWith_K (h₀ := X.base) I.ok.mod.kin hk (thn (ha pos pins s σ H _ I h) fun us s1 ⟨vs, H1, I1, r, q⟩ => ⟨I1.kIn, ?_⟩) he hpl
  exact run_fn F hr hb hd hx I1 r q
end

/-! ### keywords -/
section
variable {X : Cx} {CX : CXT} {k : Nat} {f C : Addr} {fd : FuncData} {ps ks : List Str} {sp : Sp} {E : XK} {x m : Str} {p pos apos kpos : Pos} {e o : Expr} {es : List Expr} {kws : List Keyword} {te ta : TE} {t tk : TA} {nm : Option Str}
variable {g : List Value → List Value → List Value} {gV : List V → List V → List V}
end

/-! ### a def's body keeps its promise -/
/-- names: the parameters first -/
structure FnScope (N P : List Str) (sc : Scope) : Prop where
  kind : sc.kind = .function
  co : sc.isCoroutine = false
  gen : sc.isGenerator = false
  nd : N.Nodup
  pre : N.take P.length = P
  par : ∀ x ∈ P, sc.names.lookup x = some .local ∨ sc.names.lookup x = some .cell
  nofree : ∀ y ∈ sc.names, y.2 ≠ .free

theorem bindL_out {kindOf : Str → Option NameKind} {x : Str} : ∀ {binds : List (Str × Value)} {m : Str → Option Value}, (∀ v, (x, v) ∉ binds) → bindL kindOf binds m x = m x
  | [], _, _ => rfl
  | (n, v) :: r, m, h => by
    unfold bindL
    rw [bindL_out fun w hw => h w (List.mem_cons_of_mem _ hw)]
    split
    · have : x ≠ n := by rintro rfl; exact h v List.mem_cons_self
      simp [this]
    · rfl
theorem bindC_out {kindOf : Str → Option NameKind} {x : Str} : ∀ {binds : List (Str × Value)} {m : Str → Option Value}, (∀ v, (x, v) ∉ binds) → bindC kindOf binds m x = m x
  | [], _, _ => rfl
  | (n, v) :: r, m, h => by
    unfold bindC
    rw [bindC_out fun w hw => h w (List.mem_cons_of_mem _ hw)]
    split
    · rfl
    · have : x ≠ n := by rintro rfl; exact h v List.mem_cons_self
      simp [this]
theorem bindL_get {kindOf : Str → Option NameKind} {x : Str} {v : Value} : ∀ {P : List Str} {vs : List Value} {i : Nat} {m : Str → Option Value}, P.Nodup → P[i]? = some x → vs[i]? = some v → kindOf x = some .local →
    bindL kindOf (P.zip vs) m x = some v
  | [], _, _, _, _, h, _, _ => by simp at h
  | _ :: _, [], _, _, _, _, h, _ => by simp at h
  | p :: P, w :: vs, 0, m, nd, h1, h2, hk => by
    simp at h1 h2; subst h1; subst h2
    show bindL kindOf ((p, w) :: P.zip vs) m p = _
    unfold bindL
    rw [bindL_out fun v hv => (List.nodup_cons.mp nd).1 (List.of_mem_zip hv).1, if_pos hk]
    simp
  | p :: P, w :: vs, i + 1, m, nd, h1, h2, hk => by
    show bindL kindOf ((p, w) :: P.zip vs) m x = _
    unfold bindL
    exact bindL_get (i := i) (List.nodup_cons.mp nd).2 (by simpa using h1) (by simpa using h2) hk
theorem bindC_get {kindOf : Str → Option NameKind} {x : Str} {v : Value} : ∀ {P : List Str} {vs : List Value} {i : Nat} {m : Str → Option Value}, P.Nodup → P[i]? = some x → vs[i]? = some v → kindOf x ≠ some .local →
    bindC kindOf (P.zip vs) m x = some v
  | [], _, _, _, _, h, _, _ => by simp at h
  | _ :: _, [], _, _, _, _, h, _ => by simp at h
  | p :: P, w :: vs, 0, m, nd, h1, h2, hk => by
    simp at h1 h2; subst h1; subst h2
    show bindC kindOf ((p, w) :: P.zip vs) m p = _
    unfold bindC
    rw [bindC_out fun v hv => (List.nodup_cons.mp nd).1 (List.of_mem_zip hv).1, if_neg hk]
    simp
  | p :: P, w :: vs, i + 1, m, nd, h1, h2, hk => by
    show bindC kindOf ((p, w) :: P.zip vs) m x = _
    unfold bindC
    exact bindC_get (i := i) (List.nodup_cons.mp nd).2 (by simpa using h1) (by simpa using h2) hk

/-- the names' values at the entry -/
def start (N : List Str) (vs : List V) : St := vs.map some ++ List.replicate (N.length - vs.length) none

/-- the context of a def's body, at its entry; an exception leaves the frame, then lies as CX says -/
def cxOf (CX : CXT) (P : Program) (w : World) (K : PySem.W.Frag) (mg : Str → Option Value) (base : Heap) (N : List Str) (qual : Str) (scope : Scope) (f : Addr) (cd : Value) (A : Around) (outer : List Env) (s : Shared) (H : Hp) (E : XK) : Cx where
  prog := P
  w := w
  K := K
  mg := mg
  base := base
  A := A.deeper (envOfC qual scope s.heap.objs.size f cd)
  N := N
  s₀ := s
  H₀ := H
  env := envOfC qual scope s.heap.objs.size f cd
  outer := outer
  stack := envOfC qual scope s.heap.objs.size f cd :: outer
  ex := []
  calm := true
  fn := fun _ => true
  pn := []
  xe := fun e s' => wpAny (model P w) (A.deeper (envOfC qual scope s.heap.objs.size f cd)) (leaving (envOfC qual scope s.heap.objs.size f cd) e) (fun _ s'' => CX outer H s E e s'') (fun e' s'' => CX outer H s E e' s'') s'

theorem cell_has {sc : Scope} {n : Nat} {x : Str} (h : sc.names.lookup x = some .cell) : ∃ c, (cellsFrom n sc.names []).lookup x = some c := by
  have q := PySem.W.cellsFrom_some sc.names n [] (.inl h)
  exact Option.isSome_iff_exists.mp q

theorem inv_start {CX : CXT} {P : Program} {w : World} {K : PySem.W.Frag} {mg : Str → Option Value} {base : Heap} {N ps : List Str} {qual : Str} {scope : Scope} {f : Addr} {cd : Value} {A : Around} {outer : List Env} {s s1 : Shared} {H : Hp} {E : XK} {us : List Value} {vs : List V}
    (S : FnScope N ps scope) (hd : A.handled = none) (e0 : Env0 P w K mg base A outer s H) (hl : vs.length = ps.length) (r : Vals vs us)
    (x : InCallC s s.heap.objs.size (bindL (envOfC qual scope s.heap.objs.size f cd).kindOf (ps.zip us) fun _ => none) (cellsFrom (s.heap.objs.size + 1) scope.names []) (bindC (envOfC qual scope s.heap.objs.size f cd).kindOf (ps.zip us) fun _ => none) s1) :
    Inv (cxOf CX P w K mg base N qual scope f cd A outer s H E) [] (start N vs) H s1 := by
  have hpl : ps.length ≤ N.length := by have := congrArg List.length S.pre; rw [List.length_take] at this; omega
  obtain ⟨h1, tk, rfl, hk⟩ := x.done
  have noA : ∀ b : Addr, b ∉ (cxOf CX P w K mg base N qual scope f cd A outer s H E).ex := fun b z => absurd (show b ∈ ([] : List Addr) from z) (by simp)
  refine ⟨⟨e0.mod, S.kind, rfl, rfl, Nat.le_refl _, fun y z c h1 h2 => ?_, fun y hy => ?_, fun y c _ h => ?_, fun _ => hd, Around.frames_deeper e0.frames, .inr ⟨rfl, rfl⟩, fun b z => absurd z (noA b), e0.bs, e0.bsz, fun b _ _ => noA b, fun b z => absurd z (noA b), e0.funs, e0.frf, e0.tab⟩,
    rfl, e0.bare, Un.kept hk, ⟨_, x.toInCall.ns, fun i y v h1 h2 h3 => ?_⟩, fun y c h => ⟨_, x.cell y c h⟩, e0.hok.fresh (Nat.le_refl _), fun y c h => ?_, fun p hp => absurd (show p ∈ ([] : List (Addr × Obj)) from hp) (by simp), e0.hok.kept hk, ?_⟩
  · exact name_of_addr x.apart (PySem.mem_of_lookup h1) (PySem.mem_of_lookup h2)
  · have hy : scope.names.lookup y = some .cell ∨ scope.names.lookup y = some .free := hy
    rcases hy with hy | hy
    · exact cell_has hy
    · exact absurd rfl (S.nofree _ (PySem.mem_of_lookup hy))
  · exact Nat.le_of_lt (x.above y c (PySem.mem_of_lookup h))
  · have hi : i < vs.length := by
      unfold start at h2
      by_cases hi : i < vs.length
      · exact hi
      · rw [List.getElem?_append_right (by simpa using hi)] at h2
        rw [List.getElem?_replicate] at h2
        split at h2 <;> cases h2
    have ha : vs[i]? = some v := by
      unfold start at h2
      rw [List.getElem?_append_left (by simpa using hi), List.getElem?_map] at h2
      cases e : vs[i]? with
      | none => rw [e] at h2; cases h2
      | some a => rw [e] at h2; cases h2; rfl
    obtain ⟨u, hu, rv⟩ := r.get ha
    have hp : ps[i]? = some y := by
      rw [← S.pre, List.getElem?_take_of_lt (by omega)]; exact h1
    have ndP : ps.Nodup := by rw [← S.pre]; exact S.nd.sublist (List.take_sublist _ _)
    refine ⟨u, rv, ?_⟩
    rcases S.par y (List.mem_of_getElem? hp) with k | k
    · exact .inl ⟨k, bindL_get ndP hp hu k⟩
    · obtain ⟨c, e⟩ := cell_has (n := s.heap.objs.size + 1) k
      refine .inr ⟨.inl k, c, e, ?_⟩
      have q := x.cell y c e
      rw [bindC_get ndP hp hu (by show scope.names.lookup y ≠ _; rw [k]; decide)] at q
      exact q
  · exact e0.hok.fresh (Nat.le_of_lt (x.above y c (PySem.mem_of_lookup h)))
  · unfold start
    show _ = N.length
    rw [List.length_append, List.length_map, List.length_replicate]
    omega

/-- THE RULE: a def (or a method) of the text, by its body. The body's reading t is chosen for each entry; it is run at the parameters' values -/
theorem fn_of {CX : CXT} {P : Program} {w : World} {K : PySem.W.Frag} {mg : Str → Option Value} {base : Heap} {k : Nat} {f : Addr} {name qual : Str} {params : Arguments} {body : List Stmt} {scope : Scope} {dV kV doc pm cdv ct oc : Value} {an od : Option Addr}
    {osl : Array (Option Value)} {N ps : List Str} {sp : Sp} (lk : K.lookup f = some ⟨oc, od, .func (PySem.W.fnOf name qual params body scope dV kV doc pm an cdv ct), osl⟩) (hcd : PySem.W.codeIn K cdv qual = true) (S : FnScope N ps scope)
    (len : ∀ vs H Q E, sp vs H Q E → vs.length = ps.length)
    (hbody : ∀ (A : Around) (outer : List Env) (s : Shared) (H : Hp) (vs : List V) (Q : VK) (E : XK), Room k (A.deeper (envOfC qual scope s.heap.objs.size f cdv)) → sp vs H Q E →
      ∃ t, PSs (cxOf CX P w K mg base N qual scope f cdv A outer s H E) body t ∧ t { nx := fun _ H' => Q .non H', rt := Q } (start N vs) H) :
    FnOk P w K mg base CX (k + 1) f (PySem.W.fnOf name qual params body scope dV kV doc pm an cdv ct) ps sp := by
  refine ⟨len, fun A outer s H args us vs Q E hr e0 hb r hsp => ?_⟩
  have hl := len _ _ _ _ hsp
  have KX : K.In s.heap := e0.mod.kin.keeps fun b o e => (e0.bs b o e).1
  have lim : s.heap.NoLimit := e0.mod.nolimit.keeps fun b o e => (e0.bs b o e).1
  have hkind : ∀ y ∈ ps.zip us, scope.names.lookup y.1 = some .local ∨ (scope.names.lookup y.1 = some .cell ∧ ((cellsFrom (s.heap.objs.size + 1) scope.names []).lookup y.1).isSome = true) := fun ⟨n, v⟩ hy => by
    rcases S.par n (List.of_mem_zip hy).1 with q | q
    · exact .inl q
    · exact .inr ⟨q, PySem.W.cellsFrom_some _ _ _ (.inl q)⟩
  refine codeAny_call_function hr.depth (KX _ _ lk) rfl S.co S.gen rfl (PySem.W.codeRec_of KX hcd) (hb _ _ _ _ ?_)
  refine wpAny_newFunctionEnv_cells S.kind hkind fun env he s1 x => ?_
  subst he
  refine ⟨lim.keeps x.toInCall.keep, codeAny_func ?_⟩
  obtain ⟨t, ht, hq⟩ := hbody A outer s H vs Q E (hr.deeper _) hsp
  have I : Inv (cxOf CX P w K mg base N qual scope f cdv A outer s H E) [] (start N vs) H s1 := inv_start S hr.hd e0 hl r x
  refine wpAny_mono (ht [] s1 (start N vs) H _ I hq) (fun fl s' hs => ?_) fun e s' hs => hs
  have fin : ∀ {σ' : St} {H' : Hp} {v : V} {u : Value}, Inv (cxOf CX P w K mg base N qual scope f cdv A outer s H E) [] σ' H' s' → RelV v u → Q v H' → CE outer P w H s Q u s' :=
    fun {σ' H' v u} J rv q => ⟨v, H', J.os, J.bare, J.base, J.hok, rv, q⟩
  cases fl with
  | ret u =>
    obtain ⟨v, σ', H', J, rv, q⟩ := hs
    exact fin J rv q
  | next =>
    obtain ⟨σ', H', J, q⟩ := hs
    exact fin (v := V.non) (u := Value.none) J rfl q
  | brk =>
    obtain ⟨_, _, _, q⟩ := hs
    exact False.elim q
  | cont =>
    obtain ⟨_, _, _, q⟩ := hs
    exact False.elim q
end L2

namespace L2
open PySem PySem.Spec PyProof.Rows
section
variable {X : Cx} {x : Str} {p pos : Pos} {e : Expr} {es : List Expr} {t : TA} {id T : String} {r : List V → Hp → VK → Prop}

def tCB (r : List V → Hp → VK → Prop) (t : TA) : TE := fun σ H Q => t σ H fun vs H1 => r vs H1 Q
/-- f(e, ..), f a built-in function -/
theorem pe_callB (hc : CallR X (.builtin id) r) (hg : Gl X x) (hm : X.mg x = none) (hv : bootBuiltins x = some (.builtin id)) (ha : PA X (e :: es) t) (hn : x ≠ "__name__" := by decide) (hdb : (x == ("__debug__" : Str)) = false := by decide)
    (he : starEach (e :: es) X.env = (false, eval e X.env) :: starEach es X.env := by rfl) (hpl : (backTo pos (starEach es X.env)).any (·.1) = false := by rfl) : PE X (.Call (.Name x p) (e :: es) [] pos) (tCB r t) := by
  intro pins s σ H Q I h
  refine wpAny_Call_Name_kw (ld_blt I hg hm hv ?_ hn hdb)
  exact PyProof.Rows.callWith_builtin1 (thn (ha pos pins s σ H _ I h) fun us s1 ⟨vs, H1, I1, r1, q1⟩ => hc pins s1 σ H1 vs us Q I1 r1 q1) he hpl
/-- T(e, ..), T a built-in type -/
theorem pe_callTy (hc : CallR X (.type T) r) (hg : Gl X x) (hm : X.mg x = none) (hv : bootBuiltins x = some (.type T)) (ha : PA X (e :: es) t) (hn : x ≠ "__name__" := by decide) (hdb : (x == ("__debug__" : Str)) = false := by decide)
    (he : starEach (e :: es) X.env = (false, eval e X.env) :: starEach es X.env := by rfl) (hpl : (backTo pos (starEach es X.env)).any (·.1) = false := by rfl) : PE X (.Call (.Name x p) (e :: es) [] pos) (tCB r t) := by
  intro pins s σ H Q I h
  refine wpAny_Call_Name_kw (ld_blt I hg hm hv ?_ hn hdb)
  exact PyProof.Rows.callWith_type1 (thn (ha pos pins s σ H _ I h) fun us s1 ⟨vs, H1, I1, r1, q1⟩ => hc pins s1 σ H1 vs us Q I1 r1 q1) he hpl
end
end L2

namespace HT
open PySem PyProof.Rows

section
open PySem.SeqAt
open PySem.AutoSeq1 (wpAny_loadPart')
open PySem.MeetsSeq PySem.MeetsSeq2 PySem.MeetsSeq3

end

section
variable {prog : Program} {w : World} {A : Around} {E : Value → Shared → Prop} {s : Shared}

/-! ### t[a:b], not the whole -/
/-- a slice's bound as a place among n (d where it is left out) -/
def sIx (n d : Nat) : Option Int → Nat
  | none => d
  | some v => if v < 0 then (v + (n : Int)).toNat else min v.toNat n
end
end HT

namespace L2
open PySem PySem.Spec PyProof.Rows

/-! ### the parts of a slice -/
abbrev TO := St → Hp → (Option Int → Hp → Prop) → Prop
/-- a slice's part (left out, or an int) -/
def PO (X : Cx) (e : Option Expr) (t : TO) : Prop :=
  ∀ (pins : List (Addr × Obj)) (s : Shared) (σ : St) (H : Hp) (Q : Option Int → Hp → Prop), Inv X pins σ H s → t σ H Q →
    wpAny (model X.prog X.w) X.A (evalPart e X.env) (fun u s' => ∃ o H', Inv X pins σ H' s' ∧ IsPart u o ∧ Q o H') X.xe s
def tNoPart : TO := fun _ H Q => Q none H
def tPart (t : TE) : TO := fun σ H Q => t σ H fun x H1 => ∃ i, x = .int i ∧ Q (some i) H1

section
variable {X : Cx} {e : Expr} {te : TE} {lo hi : Option Expr} {tl th : TO} {pos p2 : Pos}

theorem po_none : PO X none tNoPart := by
  intro pins s σ H Q I h
  rw [evalPart_none]
  exact wpAny_pure ⟨none, H, I, .none, h⟩
theorem po_some (h : PE X e te) : PO X (some e) (tPart te) := by
  intro pins s σ H Q I hw
  rw [evalPart_some]
  refine thn (h pins s σ H _ I hw) fun u s1 ⟨x, H1, I1, r1, q1⟩ => ?_
  obtain ⟨i, rfl, q⟩ := q1
  obtain ⟨t, rfl⟩ := r1
  exact ⟨some i, H1, I1, .int i t, q⟩

/-- what a slice of a value is, by values: the slice object stands at sl -/
def SlR (X : Cx) (r : V → Option Int → Option Int → Hp → VK → Prop) : Prop :=
  ∀ (pins : List (Addr × Obj)) (s : Shared) (σ : St) (H : Hp) (x : V) (v vl vu : Value) (lo hi : Option Int) (sl : Addr) (Q : VK), Inv X pins σ H s → RelV x v → s.heap.IsSliceOf sl vl vu .none → IsPart vl lo → IsPart vu hi → r x lo hi H Q →
    ∃ T id, typeLookup (.type T) "__getitem__" = pure (some (.builtin id)) ∧ s.TypeIs v T ∧ wpAny (model X.prog X.w) X.A (getItem v (.ref sl)) (EP X pins σ Q) X.xe s
def tSl (r : V → Option Int → Option Int → Hp → VK → Prop) (te : TE) (tl th : TO) : TE := fun σ H Q => te σ H fun x H1 => tl σ H1 fun l H2 => th σ H2 fun u H3 => r x l u H3 Q
/-- a[lo:hi], any a -/
theorem pe_slice {r : V → Option Int → Option Int → Hp → VK → Prop} (hr : SlR X r) (he : PE X e te) (hl : PO X lo tl) (hu : PO X hi th) : PE X (.Subscript e (.Slice lo hi none p2) pos) (tSl r te tl th) := by
  intro pins s σ H Q I h
  refine Subscript_ (thn (he pins s σ H _ I h) fun v s1 ⟨x, H1, I1, r1, q1⟩ => ?_)
  refine wpAny_Slice (thn (hl pins s1 σ H1 _ I1 q1) fun vl s2 ⟨l, H2, I2, pl, q2⟩ => thn (hu pins s2 σ H2 _ I2 q2) fun vu s3 ⟨u, H3, I3, pu, q3⟩ => ?_)
  rw [evalPart_none]
  refine wpAny_pure ?_
  have I4 : Inv X pins σ H3 { s3 with heap := s3.heap.push { cls := .type "slice", data := .fields #[vl, vu, .none] } } := I3.kept (t' := s3.toks) fun b ob q => Heap.get?_push_of_some _ q
  obtain ⟨T, id, hT, ht, hg⟩ := hr pins { s3 with heap := s3.heap.push { cls := .type "slice", data := .fields #[vl, vu, .none] } } σ H3 x v vl vu l u s3.heap.objs.size Q I4 r1 (Heap.IsSliceOf.new ..) pl pu q3
  show wpAny (model X.prog X.w) X.A (subscriptTail e (.Slice lo hi none p2) v (.ref s3.heap.objs.size)) (EP X pins σ Q) X.xe { s3 with heap := s3.heap.push { cls := .type "slice", data := .fields #[vl, vu, .none] } }
  exact tail_any (ops := [.ref s3.heap.objs.size, v]) ht hT hg (by with_unfolding_all rfl)

/-- the items of xs[lo:hi] -/
def cutV (xs : List V) (lo hi : Option Int) : List V := (xs.drop (HT.sIx xs.length 0 lo)).take (HT.sIx xs.length xs.length hi - HT.sIx xs.length 0 lo)
theorem cutV_length (xs : List V) (lo hi : Option Int) : (cutV xs lo hi).length ≤ xs.length := by
  unfold cutV
  rw [List.length_take, List.length_drop]
  omega
end
end L2

namespace L2
open PySem PySem.Spec PyProof.Rows

/-! ### places -/
/-- the place that an index of any sign means -/
def ixN (n : Nat) (i : Int) : Option Nat := if 0 ≤ i then (if i < n then some i.toNat else none) else if -(n : Int) ≤ i then some (i + n).toNat else none
def atI {α : Type} (xs : List α) (i : Int) : Option α := (ixN xs.length i).bind fun j => xs[j]?
theorem ixN_seq {n : Nat} {i : Int} {j : Nat} (h : ixN n i = some j) : seqIndex? i n = some j ∧ j < n ∧ -(n : Int) ≤ i ∧ i < n := by
  unfold ixN at h
  by_cases h0 : 0 ≤ i
  · rw [if_pos h0] at h
    by_cases h1 : i < n
    · rw [if_pos h1] at h
      have e : i.toNat = j := Option.some.inj h
      exact ⟨by rw [seqIndex_of h0 h1, e], by omega, by omega, h1⟩
    · rw [if_neg h1] at h; cases h
  · rw [if_neg h0] at h
    by_cases h1 : -(n : Int) ≤ i
    · rw [if_pos h1] at h
      have e : (i + n).toNat = j := Option.some.inj h
      exact ⟨by rw [seqIndex_neg (by omega) h1, e], by omega, h1, by omega⟩
    · rw [if_neg h1] at h; cases h
theorem atI_get {α : Type} {xs : List α} {i : Int} {v : α} (h : atI xs i = some v) : ∃ j, seqIndex? i xs.length = some j ∧ xs[j]? = some v ∧ j < xs.length ∧ -(xs.length : Int) ≤ i ∧ i < xs.length := by
  unfold atI at h
  cases e : ixN xs.length i with
  | none => rw [e] at h; cases h
  | some j =>
    rw [e] at h
    obtain ⟨h1, h2, h3, h4⟩ := ixN_seq e
    exact ⟨j, h1, h, h2, h3, h4⟩
/-! ### what may be subscripted -/
/-- what stands as an index of a plain subscript -/
def PlainIx (b : Expr) : Prop := ∀ o i, subscripted b false o i = operate [o, i] (getItem o i)
/-- a subscript by values -/
def IxR (X : Cx) (r : R2) : Prop :=
  ∀ (value slice : Expr) (pins : List (Addr × Obj)) (s : Shared) (σ : St) (H : Hp) (x y : V) (v u : Value) (Q : VK), Inv X pins σ H s → RelV x v → RelV y u → r x y H Q →
    subscripted slice false v u = operate [v, u] (getItem v u) → wpAny (model X.prog X.w) X.A (subscriptTail value slice v u) (EP X pins σ Q) X.xe s
/-- a call of a builtin's method by values: the receiver, the arguments -/
def MtR (X : Cx) (id : String) (r : V → List V → Hp → VK → Prop) : Prop :=
  ∀ (pins : List (Addr × Obj)) (s : Shared) (σ : St) (H : Hp) (x : V) (xs : List V) (v : Value) (us : List Value) (Q : VK), Inv X pins σ H s → RelV x v → Vals xs us → r x xs H Q →
    wpAny (model X.prog X.w) X.A (call (.builtin id) (v :: us)) (EP X pins σ Q) X.xe s
section
variable {X : Cx} {a b : Expr} {ta tb : TE} {pos : Pos}
/-- a[b] -/
theorem pe_ix {r : R2} (hr : IxR X r) (ha : PE X a ta) (hb : PE X b tb) (hs : PlainIx b) : PE X (.Subscript a b pos) (tOp r ta tb) := by
  intro pins s σ H Q I h
  exact Subscript_ (binT ha hb I h fun v u s2 x y H2 I2 rx ry q => hr a b pins s2 σ H2 x y v u Q I2 rx ry q (hs _ _))

def rIxL (K : PySem.W.Frag) : R2 := fun x y H Q => ∃ p xs i v, x = .ref p ∧ y = .int i ∧ SqL K H p xs ∧ atI xs i = some v ∧ Q v H
def rIxT (K : PySem.W.Frag) : R2 := fun x y H Q => ∃ p xs i v, x = .ref p ∧ y = .int i ∧ SqT K H p xs ∧ atI xs i = some v ∧ Q v H
def rIxS : R2 := fun x y H Q => ∃ z i c, x = .str z ∧ y = .int i ∧ z.length ≤ sizeLine ∧ atI z.cps.toList i = some c ∧ Q (.str ⟨#[c]⟩) H
theorem ix_list : IxR X (rIxL X.K) := by
  intro value slice pins s σ H x y v u Q I rx ry h hs
  obtain ⟨p, xs, i, z, rfl, rfl, hq, he, q⟩ := h
  cases rx
  obtain ⟨t, rfl⟩ := ry
  obtain ⟨its, r, pl, hz⟩ := I.list hq
  obtain ⟨j, h1, h2, h3, h4, h5⟩ := atI_get he
  obtain ⟨w, ew, rw'⟩ := r.get h2
  have hl := r.length
  have hn := line63
  have fin : EP X pins σ Q w s := ⟨z, H, I, rw', q⟩
  by_cases h0 : 0 ≤ i
  · have hj : i.toNat = j := by
      rw [seqIndex_of h0 h5] at h1
      exact Option.some.inj h1
    exact item_listR pl.isList h0 (by omega) (by rw [hj]; simpa using ew) fin hs
  · have hj : (i + (its.toArray.size : Int)).toNat = j := by
      rw [seqIndex_neg (by omega) h4] at h1
      rw [List.size_toArray, ← hl]
      exact Option.some.inj h1
    exact subscriptTail_builtinR (x := w) pl.isList.typeIs slot_list_getitem.lookup
      (wpAny_getItem_list_neg (Q := fun r s' => r = w ∧ EP X pins σ Q r s') pl.isList (by omega) (by rw [List.size_toArray] <;> omega) (by omega) (by rw [hj]; simpa using ew) ⟨rfl, fin⟩) hs
theorem ix_tup : IxR X (rIxT X.K) := by
  intro value slice pins s σ H x y v u Q I rx ry h hs
  obtain ⟨p, xs, i, z, rfl, rfl, hq, he, q⟩ := h
  cases rx
  obtain ⟨t, rfl⟩ := ry
  obtain ⟨its, r, pl, hz⟩ := I.tuple hq
  obtain ⟨j, h1, h2, h3, h4, h5⟩ := atI_get he
  obtain ⟨w, ew, rw'⟩ := r.get h2
  have hl := r.length
  have hn := line63
  have fin : EP X pins σ Q w s := ⟨z, H, I, rw', q⟩
  exact subscriptTail_builtinR (x := w) pl.typeIs slot_tuple_getitem.lookup
    (getItem_tuple (j := j) (Q := fun r s' => r = w ∧ EP X pins σ Q r s') pl (by omega) (by omega) (by rw [List.size_toArray, ← hl]; exact h1) (by simpa using ew) ⟨rfl, fin⟩) hs
theorem ix_str : IxR X rIxS := by
  intro value slice pins s σ H x y v u Q I rx ry h hs
  obtain ⟨z, i, c, rfl, rfl, hz, he, q⟩ := h
  obtain ⟨t, rfl⟩ := rx
  obtain ⟨t', rfl⟩ := ry
  obtain ⟨j, h1, h2, h3, h4, h5⟩ := atI_get he
  have hl : z.cps.toList.length = z.length := by simp [Str.length]
  rw [hl] at h1 h4 h5
  have hn := line63
  exact tail_any (typeIs_str s z t) slot_str_getitem.lookup (getItem_str (c := c) (by
    have e1 : decide (i < -(2 ^ 63 : Int)) = false := decide_eq_false (by omega)
    have e2 : decide (i ≥ 2 ^ 63) = false := decide_eq_false (by omega)
    rw [e1, e2, Bool.or_false]) (by rw [h1]; simpa using h2) ⟨.str ⟨#[c]⟩, H, I.tok _, ⟨_, rfl⟩, q⟩) hs
/-! ### xs[i] = v, any sign -/
/-- the list's object behind a store -/
theorem mapSeq_set (its : List Value) (n j : Nat) (u : Value) : Obj.mapSeq (·.setIfInBounds j u) { cls := .type "list", data := .seq its.toArray n } = { cls := .type "list", data := .seq (its.set j u).toArray n } := by
  simp [Obj.mapSeq]
theorem Inv.lst {pins : List (Addr × Obj)} {σ : St} {H : Hp} {s : Shared} {p : Addr} {xs : List V} (I : Inv X pins σ H s) (h : H p = some (.lst xs)) :
    ∃ (its : List Value) (n : Nat), Vals xs its ∧ s.heap.get? p = some { cls := .type "list", data := .seq its.toArray n } ∧ xs.length ≤ sizeLine := by
  obtain ⟨z, its, n, r, e⟩ := I.hok p _ h
  exact ⟨its, n, r, e, z⟩
/-- the list at p is written by an update of its object -/
theorem Inv.lstUpd {pins : List (Addr × Obj)} {σ : St} {H : Hp} {s : Shared} {p : Addr} {xs ys : List V} {its its' : List Value} {n n' : Nat} {f : Obj → Obj} (I : Inv X pins σ H s) (h : H p = some (.lst xs))
    (ho : s.heap.get? p = some { cls := .type "list", data := .seq its.toArray n }) (hf : f { cls := .type "list", data := .seq its.toArray n } = { cls := .type "list", data := .seq its'.toArray n' }) (r : Vals ys its') (hz : ys.length ≤ sizeLine) (t : Nat) :
    Inv X pins σ (upd H p (.lst ys)) { s with heap := s.heap.update p f, toks := t } := by
  have e : (s.heap.update p f).get? p = some { cls := .type "list", data := .seq its'.toArray n' } := by
    rw [Heap.get?_update_self f ho (by rw [hf] <;> rfl), hf]
  refine I.write (x := p) (e := p) (by rw [h]; trivial) (.inl rfl) (fun b u hb q => (Heap.get?_update_other _ _ (Ne.symm hb)).trans q) ⟨_, e⟩ ?_
  exact ⟨hz, its', n', r, e⟩
def rSetL : V → V → V → Hp → (Hp → Prop) → Prop := fun o i v H Q => ∃ p xs k j, o = .ref p ∧ i = .int k ∧ H p = some (.lst xs) ∧ ixN xs.length k = some j ∧ Q (upd H p (.lst (xs.set j v)))
theorem set_list : PSet X rSetL := by
  intro pins s σ H o i v ov iv u Q I ro ri rv h
  obtain ⟨p, xs, k, j, rfl, rfl, hp, hj, q⟩ := h
  cases ro
  obtain ⟨t, rfl⟩ := ri
  obtain ⟨its, n, r, ho, hz⟩ := I.lst hp
  obtain ⟨h1, h2, h3, h4⟩ := ixN_seq hj
  have hl := r.length
  have hn := line63
  have I' : Inv X pins σ (upd H p (.lst (xs.set j v))) { s with heap := s.heap.update p (Obj.mapSeq (·.setIfInBounds j u)) } :=
    I.lstUpd hp ho (mapSeq_set its n j u) (r.set rv j) (by rw [List.length_set]; exact hz) s.toks
  by_cases h0 : 0 ≤ k
  · have hk : k.toNat = j := by
      rw [seqIndex_of h0 h4] at h1
      exact Option.some.inj h1
    exact PySem.W.ki_setAt ho h0 (by omega) (by rw [List.size_toArray, ← hl]; exact h4) (by rw [hk]; exact ⟨_, I', q⟩)
  · have hk : (k + (its.toArray.size : Int)).toNat = j := by
      rw [seqIndex_neg (by omega) h3] at h1
      rw [List.size_toArray, ← hl]
      exact Option.some.inj h1
    exact PySem.W.ki_setBack ho (by omega) (by rw [List.size_toArray, ← hl]; exact h3) (by omega) (by rw [hk]; exact ⟨_, I', q⟩)

/-! ### slices -/
theorem slice_bounds (lo hi : Option Int) (n : Nat) : (sliceBounds lo hi none n).1 = ((HT.sIx n 0 lo : Nat) : Int) ∧ (sliceBounds lo hi none n).2.1 = ((HT.sIx n n hi : Nat) : Int) ∧ (sliceBounds lo hi none n).2.2 = 1 := by
  refine ⟨?_, ?_, rfl⟩
  · cases lo with
    | none => simp [sliceBounds, HT.sIx]
    | some i =>
      simp only [sliceBounds, HT.sIx, Option.getD_none, show (1 : Int) > 0 by decide, if_true]
      by_cases h : i < 0
      · simp only [h, if_true] <;> omega
      · simp only [h, if_false] <;> omega
  · cases hi with
    | none => simp [sliceBounds, HT.sIx]
    | some i =>
      simp only [sliceBounds, HT.sIx, Option.getD_none, show (1 : Int) > 0 by decide, if_true]
      by_cases h : i < 0
      · simp only [h, if_true] <;> omega
      · simp only [h, if_false] <;> omega
theorem slicePick_cut (its : List Value) (lo hi : Option Int) : slicePick its.toArray lo hi none = ((its.drop (HT.sIx its.length 0 lo)).take (HT.sIx its.length its.length hi - HT.sIx its.length 0 lo)).toArray := by
  obtain ⟨h1, h2, h3⟩ := slice_bounds lo hi its.toArray.size
  unfold slicePick
  rw [h1, h2, h3]
  simp only [sliceRange_one, pick_run, List.size_toArray] <;> rfl
/-- xs[lo:hi] of a list: a new list -/
def rSlL (K : PySem.W.Frag) : V → Option Int → Option Int → Hp → VK → Prop := fun x lo hi H Q => ∃ a xs, x = .ref a ∧ SqL K H a xs ∧ ∀ p, H p = none → Q (.ref p) (upd H p (.lst (cutV xs lo hi)))
theorem sl_list : SlR X (rSlL X.K) := by
  intro pins s σ H x v vl vu lo hi sl Q I rx hs pl pu h
  obtain ⟨a, xs, rfl, hx, q⟩ := h
  cases rx
  obtain ⟨its, r, ht, hz⟩ := I.list hx
  have hlen := r.length
  refine ⟨"list", _, slot_list_getitem.lookup, ht.isList.typeIs, ?_⟩
  refine wpAny_getItem_list_slice ht.isList hs pl pu .none (by simp) ?_ (by rw [List.size_toArray] <;> omega)
  rw [slicePick_cut, ← hlen]
  refine ⟨.ref s.heap.objs.size, _, I.laid (t' := s.toks) (o := .lst (cutV xs lo hi)) (fun b ob q => Heap.get?_push_of_some _ q) (Nat.le_refl _) ?_, rfl, q _ (I.hok.fresh (Nat.le_refl _))⟩
  exact ⟨Nat.le_trans (cutV_length xs lo hi) hz, _, 0, (r.drop (HT.sIx xs.length 0 lo)).take (HT.sIx xs.length xs.length hi - HT.sIx xs.length 0 lo), Heap.get?_push_size _ rfl⟩

/-! ### len, list(x), tuple(x) of any list or tuple that is read -/
theorem call_len_seq : CallR X (.builtin "len") (fun xs H Q => ∃ p ys, xs = [.ref p] ∧ (SqL X.K H p ys ∨ SqT X.K H p ys) ∧ Q (.int ys.length) H) := by
  intro pins s σ H xs us Q I r h
  obtain ⟨p, ys, rfl, hq, q⟩ := h
  obtain ⟨u, rfl, rx⟩ := vals1 r
  cases rx
  have hn := line63
  rcases hq with hq | hq
  · obtain ⟨its, r', pl, hz⟩ := I.list hq
    have hlen := r'.length
    exact Calls.call_len_list pl.isList (by simp only [List.size_toArray] <;> omega) ⟨.int ys.length, H, I.tok _, ⟨s.toks + 1, by rw [List.size_toArray, hlen]⟩, q⟩
  · obtain ⟨its, r', pl, hz⟩ := I.tuple hq
    have hlen := r'.length
    exact len_tuple pl (by simp only [List.size_toArray] <;> omega) ⟨.int ys.length, H, I.tok _, ⟨s.toks + 1, by rw [List.size_toArray, hlen]⟩, q⟩
theorem call_len_str : CallR X (.builtin "len") (fun xs H Q => ∃ z, xs = [.str z] ∧ z.length ≤ sizeLine ∧ Q (.int z.length) H) := by
  intro pins s σ H xs us Q I r h
  obtain ⟨z, rfl, hz, q⟩ := h
  obtain ⟨u, rfl, t, rfl⟩ := vals1 r
  have hn := line63
  exact len_str (by omega) ⟨.int z.length, H, I.tok _, ⟨_, rfl⟩, q⟩
/-! ### the call of a builtin's method: o.m(..) -/
/-- the value is of that builtin type -/
def tyV (K : PySem.W.Frag) (T : String) (x : V) (H : Hp) : Prop := match x with
  | .str _ => T = "str"
  | .int _ => T = "int"
  | .ref p => (T = "list" ∧ ∃ xs, SqL K H p xs) ∨ (T = "tuple" ∧ ∃ o, K.lookup p = some o ∧ o.cls = .type "tuple" ∧ o.dict = none) ∨
      (T = "dict" ∧ ((∃ kvs, H p = some (.dK kvs)) ∨ ∃ kvs, H p = some (.dT kvs))) ∨ (T = "set" ∧ ∃ S n, H p = some (.set S n))
  | _ => False
theorem tyV_is {pins : List (Addr × Obj)} {σ : St} {H : Hp} {s : Shared} {T : String} {x : V} {v : Value} (I : Inv X pins σ H s) (r : RelV x v) (ty : tyV X.K T x H) :
    s.TypeIs v T ∧ ∀ a, v = .ref a → ∃ ob, s.heap.get? a = some ob ∧ ob.dict = none := by
  cases x with
  | str z =>
    obtain ⟨t, rfl⟩ := r
    cases (show T = "str" from ty)
    exact ⟨typeIs_str s z t, fun _ e => nomatch e⟩
  | int i =>
    obtain ⟨t, rfl⟩ := r
    cases (show T = "int" from ty)
    exact ⟨typeIs_int s i t, fun _ e => nomatch e⟩
  | ref p =>
    cases r
    rcases ty with ⟨rfl, xs, hq⟩ | ⟨rfl, o, hk, hc, hd⟩ | ⟨rfl, hk⟩ | ⟨rfl, S, n, hk⟩
    · obtain ⟨its, _, pl, _⟩ := I.list hq
      refine ⟨pl.isList.typeIs, fun a e => ?_⟩
      cases e
      obtain ⟨o, n, e, c, hd, _⟩ := pl
      exact ⟨o, e, hd⟩
    · refine ⟨⟨o, I.kIn p o hk, hc⟩, fun a e => ?_⟩
      cases e
      exact ⟨o, I.kIn _ o hk, hd⟩
    · have z : ∃ o, s.heap.get? p = some o ∧ o.ExactDict := by
        rcases hk with ⟨kvs, hk⟩ | ⟨kvs, hk⟩
        · obtain ⟨_, _, _, _, o, _, _, e, ex, _⟩ := I.hok p _ hk
          exact ⟨o, e, ex⟩
        · obtain ⟨_, _, _, _, o, _, _, e, ex, _⟩ := I.hok p _ hk
          exact ⟨o, e, ex⟩
      obtain ⟨o, e, ex⟩ := z
      refine ⟨⟨o, e, ex.1⟩, fun a e2 => ?_⟩
      cases e2
      exact ⟨o, e, ex.2.1⟩
    · obtain ⟨o, _, _, _, e, ex, _⟩ := I.hok p _ hk
      refine ⟨⟨o, e, ex.1⟩, fun a e2 => ?_⟩
      cases e2
      exact ⟨o, e, ex.2.1⟩
  | _ => exact False.elim ty
def tBM (K : PySem.W.Frag) (T : String) (r : V → List V → Hp → VK → Prop) (to : TE) (t : TA) : TE := fun σ H Q => to σ H fun x H1 => tyV K T x H1 ∧ t σ H1 fun xs H2 => r x xs H2 Q
variable {o e : Expr} {es : List Expr} {to : TE} {t : TA} {name : Str} {apos cpos : Pos} {T id : String} {r : V → List V → Hp → VK → Prop}
theorem pe_bm (pa : PlainAttrs T) (slot : Slot T name id) (hty : typeOf (.builtin id) = pure (.type "method_descriptor")) (hm : MtR X id r) (ho : PE X o to) (ha : PA X (e :: es) t)
    (hbase : attributeBase o name X.env (eval o X.env) = eval o X.env := by rfl)
    (hfew : ((backTo cpos (starEach (e :: es) X.env)).all (fun x => !x.1) && (backToKw cpos (keywordEach [] X.env)).all (fun x => x.1.isSome)
      && decide ((e :: es).length + ([] : List Keyword).length + (if ([] : List Keyword).isEmpty then 0 else 1) < 30)) = true := by rfl)
    (hline : (apos.endLine == cpos.line) = true := by rfl) (hs : starEach (e :: es) X.env = (false, eval e X.env) :: starEach es X.env := by rfl) (hplain : (backTo cpos (starEach es X.env)).any (·.1) = false := by rfl) :
    PE X (.Call (.Attribute o name apos) (e :: es) [] cpos) (tBM X.K T r to t) := by
  intro pins s σ H Q I h
  refine wpAny_Call_method_late hbase hfew hline rfl (thn (ho pins s σ H _ I h) fun v s1 ⟨x, H1, I1, r1, ty, q1⟩ => ?_)
  obtain ⟨h1, h2⟩ := tyV_is I1 r1 ty
  refine ⟨T, id, pa, slot, hty, h1, h2, ?_⟩
  have hA := ha cpos pins s1 σ H1 _ I1 q1
  rw [hs] at hA ⊢
  refine Calls.callWith_builtin (by show (false || (backTo cpos (starEach es X.env)).any (·.1)) = false; rw [hplain] <;> rfl) (Calls.evalArgs_plain ?_)
  exact thn hA fun us s2 ⟨vs, H2, I2, r2, q2⟩ => hm pins s2 σ H2 x vs v us Q I2 r1 r2 q2
/- xs.append(e), list.index on a module's tuple .. are MtR facts of 06m -/
end
end L2

namespace L2
open PySem PySem.Spec PyProof.Rows

def MtM (X : Cx) (id : String) (r : V → List V → Hp → VK → Prop) : Prop :=
  ∀ (pins : List (Addr × Obj)) (s : Shared) (σ : St) (H : Hp) (x : V) (xs : List V) (v : Value) (us : List Value) (Q : VK), Inv X pins σ H s → RelV x v → Vals xs us → r x xs H Q →
    wpAny (model X.prog X.w) X.A (call (.builtin id) (v :: us)) (EP X pins σ Q) X.xe s

/-! ### lists of values -/
theorem Vals.one : ∀ {x : V} {us : List Value}, Vals [x] us → ∃ u, us = [u] ∧ RelV x u
  | _, _, .cons r .nil => ⟨_, rfl, r⟩
theorem Vals.reverse {xs : List V} {us : List Value} (h : Vals xs us) : Vals xs.reverse us.reverse := by
  induction h with
  | nil => exact .nil
  | cons r t ih => rw [List.reverse_cons, List.reverse_cons]; exact Vals.append ih (.cons r .nil)
section
variable {X : Cx} {pins : List (Addr × Obj)} {σ : St} {H : Hp} {s : Shared} {l b : Addr} {xs ys zs : List V}

/-! ### the two steps: a tracked list is rewritten, a new list is laid -/
theorem Inv.lset {its its' : List Value} {n : Nat} {f : Array Value → Array Value} {t' : Nat} (I : Inv X pins σ H s) (hH : H l = some (.lst xs))
    (e : s.heap.get? l = some { cls := .type "list", data := .seq its.toArray n }) (hf : f its.toArray = its'.toArray) (hv : Vals ys its') (hz : ys.length ≤ sizeLine) :
    Inv X pins σ (upd H l (.lst ys)) { s with heap := s.heap.update l (Obj.mapSeq f), toks := t' } := by
  have q := PySem.IsL.update e f
  rw [hf] at q
  refine I.write (x := l) (e := l) (by rw [hH]; exact trivial) (.inl rfl) (fun b' u hb hu => (Heap.get?_update_other s.heap (Obj.mapSeq f) (Ne.symm hb)).trans hu) ⟨_, q⟩ ?_
  exact ⟨hz, its', _, hv, q⟩
theorem Inv.lnew {its : List Value} {t' : Nat} (I : Inv X pins σ H s) (hv : Vals ys its) (hz : ys.length ≤ sizeLine) :
    Inv X pins σ (upd H s.heap.objs.size (.lst ys)) { s with heap := s.heap.push { cls := .type "list", data := .seq its.toArray }, toks := t' } :=
  I.laid (fun _ _ q => Heap.get?_push_of_some _ q) (Nat.le_refl _) ⟨hz, its, 0, hv, Heap.get?_push_size _ rfl⟩
theorem Inv.fresh (I : Inv X pins σ H s) : H s.heap.objs.size = none := I.hok.fresh (Nat.le_refl _)
theorem Inv.lstM (I : Inv X pins σ H s) (hH : H l = some (.lst xs)) : xs.length ≤ sizeLine ∧ ∃ (its : List Value) (n : Nat), Vals xs its ∧ xs.length = its.length ∧ s.heap.get? l = some { cls := .type "list", data := .seq its.toArray n } := by
  obtain ⟨z, its, n, r, e⟩ := I.hok l _ hH
  exact ⟨z, its, n, r, r.length, e⟩

end

section
variable {X : Cx}

/-! ### methods -/
def rAppend : V → List V → Hp → VK → Prop := fun x vs H Q => ∃ l xs y, x = .ref l ∧ vs = [y] ∧ H l = some (.lst xs) ∧ xs.length < sizeLine ∧ Q .non (upd H l (.lst (xs ++ [y])))
theorem mt_append : MtM X "list.append" rAppend := by
  intro pins s σ H x vs v us Q I rx rv h
  obtain ⟨l, xs, y, rfl, rfl, hH, hz, q⟩ := h
  cases rx
  obtain ⟨u, rfl, ru⟩ := rv.one
  obtain ⟨z, its, n, r, hl, e⟩ := I.lstM hH
  refine call_meets F.slot_list_append ⟨_, e, rfl⟩ F.entry_list_append (F.args_list_append_2 _ _) (PySem.list_append l its.toArray n u (by rw [List.size_toArray]; omega)) ⟨e, ?_⟩
  refine ⟨.non, _, I.lset (its' := its ++ [u]) hH e (by simp) (r.append (.cons ru .nil)) ?_, rfl, q⟩
  rw [List.length_append, List.length_singleton]
  omega

/-! ### list + list, list += list, list * int -/
def rCat : R2 := fun x y H Q => ∃ l b xs zs, x = .ref l ∧ y = .ref b ∧ H l = some (.lst xs) ∧ H b = some (.lst zs) ∧ xs.length + zs.length ≤ sizeLine ∧ ∀ p, H p = none → Q (.ref p) (upd H p (.lst (xs ++ zs)))
theorem op_cat : OpR X (binaryOp .Add) rCat := by
  intro pins s σ H x y v u Q I rx ry h
  obtain ⟨l, b, xs, zs, rfl, rfl, hH, hB, hz, q⟩ := h
  cases rx
  cases ry
  obtain ⟨z, its, n, r, hl, e⟩ := I.lstM hH
  obtain ⟨z2, its2, n2, r2, hl2, e2⟩ := I.lstM hB
  refine PySem.P.add_list e e2 ?_ (by rw [List.size_toArray, List.size_toArray]; omega)
  have ea : its.toArray ++ its2.toArray = (its ++ its2).toArray := by simp
  rw [ea]
  exact ⟨.ref _, _, I.lnew (t' := s.toks) (r.append r2) (by rw [List.length_append]; omega), rfl, q _ I.fresh⟩
end

/-! ### xs[a:b] = ys -/
section
variable {prog : Program} {w : World} {A : Around} {E : Value → Shared → Prop} {s : Shared}
set_option maxRecDepth 100000 in
end

section
variable {X : Cx}
end
end L2

namespace Att
open PySem PySem.W PySem.Calls PyProof.Rows

/-! ### the script -/
theorem ints_of_wellAll {P : Params} {h : Heap} : ∀ (ns : List Int) (vs : List Value), WellAll P h vs (ns.map WData.int) → IntsAre vs ns := by
  intro ns
  induction ns with
  | nil =>
    intro vs w
    rw [List.map_nil] at w
    cases w
    exact .nil
  | cons n ns ih =>
    intro vs w
    rw [List.map_cons] at w
    cases w with
    | cons a b =>
      cases a
      exact .cons _ _ (ih _ b)

theorem script_of {l : OpenLaw} {n : Nat} (hn : l.most = some n) {P : Params} {h : Heap} {args : List WData} {vals : List Value}
    (hpre : l.row.toRowW.claim.pre args = true) (hwl : WellAll P h vals args) :
    ∃ a vs ns, vals = [Value.ref a] ∧ args = [WData.list (ns.map WData.int)] ∧ h.get? a = some { cls := .type "list", data := .seq vs.toArray } ∧ IntsAre vs ns ∧ ns.length ≤ n := by
  have hsh : WShape.hasAll [] args [.list .int] = true := (pre_splitW hpre).1
  have hc : l.pre.holds [] { args := args } = true := (pre_splitW hpre).2
  obtain ⟨d, r, rfl, h1, h2⟩ := hasAllW_cons hsh
  obtain rfl := hasAllW_nil h2
  obtain ⟨xs, rfl, h3⟩ := hasW_list h1
  obtain ⟨ns, rfl⟩ := items_int h3
  have hlen : ns.length ≤ n := by
    unfold OpenLaw.pre at hc
    have h4 : (WTm.not (.lt (.lit (.int (n : Int))) (.len (.arg 0)))).holds [] { args := [.list (ns.map .int)] } = true := by
      have h4 := (holds_andW hc).1
      rw [hn] at h4
      exact h4
    have h5 := condW_of h4 (w_not (w_lt w_lit (w_len_list (w_arg rfl))))
    rw [List.length_map] at h5
    refine Nat.le_of_not_lt fun q => ?_
    have q' : (n : Int) < ((ns.length : Nat) : Int) := by omega
    first
      | (rw [decide_eq_true q'] at h5; exact absurd h5 (by decide))
      | (simp at h5; omega)
  cases hwl with
  | cons w1 w2 =>
    cases w2
    cases w1 with
    | list ho hall => exact ⟨_, _, ns, rfl, rfl, ho, ints_of_wellAll ns _ hall, hlen⟩

theorem post_true (l : OpenLaw) (args : List WData) : l.row.toRowW.claim.post args (.bool true) args = true :=
  postW_of (r := l.row.toRowW) (X := (true == true))
    (show WShape.has [] (.bool true) .bool = true by first | rfl | decide | simp [WShape.has, WShape.arms, WShape.armsAll])
    (show (WTm.eq .res (.lit (.bool true))).value [] { args := args, res := some (.bool true), after := args } = some (.bool (true == true)) from w_eq_bool (w_res rfl) w_lit) rfl

/-- the same from a codeAny of the CALL (for a layer whose function contracts speak of calls) -/
theorem attach_call {l : OpenLaw} {n : Nat} {q : Program} {loose : List Str} {XP : (Str → Option Value) → Heap → Prop} {YP : World → Heap → Prop} {d : DefRec}
    (hn : l.most = some n) (hdf : d.params.defaults = [])
    (call : ∀ (w : World) (s₀ s₁ : Shared) (mg mb : Str → Option Value) (fa : Addr) (o : Obj) (pm cd doc : Value) (a : Addr) (vs : List Value) (ns : List Int),
      Ground q loose [] XP w s₀ mg mb s₁.heap → YP w s₁.heap →
      s₁.heap.get? fa = some o → o.data = .func (docDef d.name d.params d.body d.scope pm cd doc) → s₁.heap.CodeRec cd d.name → mg d.name = some (.ref fa) →
      s₁.heap.get? a = some { cls := .type "list", data := .seq vs.toArray } → IntsAre vs ns → ns.length ≤ n → s₁.gens = #[] →
      codeAny (model l.prog w) callerA (.call (.ref fa) ⟨[.ref a], []⟩) (fun r s' => r = .ok (.ret (.bool true)) ∧ OldK s₁.heap s'.heap ∧ s'.os = s₁.os ∧ AllBare s'.gens) s₁) :
    WalkO q loose XP YP l.row.toRowW d [] (fun f vs => PySem.call f vs) := by
  intro w s₀ s₁ mg mb G Y fa o pm cd doc dV kV ho hd hcd hD hmg hg args vals as hpre hlay hrd hwl hlo
  obtain rfl : dV = .none := Dflts.none hD hdf
  obtain rfl : kV = .none := Dflts.noKw hD
  obtain ⟨a, vs, ns, rfl, rfl, hobj, hints, hlen⟩ := script_of hn hpre hwl
  refine enter_call (codeAny_mono (call w s₀ s₁ mg mb fa o pm cd doc a vs ns G Y ho (fd_plain hd) hcd hmg hobj hints hlen hg) fun r s' hq => ?_)
  obtain ⟨rfl, h2, h3, h4⟩ := hq
  exact ⟨.inl ⟨.bool true, .bool true, [], rfl, fun _ => rfl, .bool true, post_true l _, fun _ => ⟨List.Pairwise.nil, fun _ hm => (nomatch hm)⟩⟩, h2, h3, h4⟩

/-! ### rules over ANY heap (no ledger) from facts about the written part K: the library's own take a ledger (News) for what they write -/
section
variable {prog : Program} {w : World} {A : Around} {E : Value → Shared → Prop} {s : Shared} {K : Frag}

end
end Att

namespace L2
open PySem PySem.Spec PyProof.Rows

theorem vals_ints : ∀ {vs : List Value} {ns : List Int}, IntsAre vs ns → Vals (ns.map V.int) vs
  | _, _, .nil => .nil
  | _, _, .cons n t h => .cons ⟨t, rfl⟩ (vals_ints h)

/-- nothing is tracked but the script, known to the object (or it is an object of the module) -/
def Only (H : Hp) : Prop := ∀ b, H b = none ∨ (∃ o xs, H b = some (.frz o (.lst xs))) ∨ ∃ ps, H b = some (.tbl ps)

/-- THE HEAD: the law's promise, at the heap behind the top. F, the promise of the law's def, may use that base is part of the heap (so K.In base, base.Ns mainGlobals mg stand in Mod) -/
theorem law_call {P : Program} {w : World} {K : PySem.W.Frag} {mg mb : Str → Option Value} {CX : CXT} {k : Nat} {fa a : Addr} {fd : FuncData} {x : Str} {sp : Sp} {s₁ : Shared} {vs : List Value} {ns : List Int}
    (KX : K.In s₁.heap) (hns : s₁.heap.Ns mainGlobals mg) (hb : s₁.heap.Ns builtinsNs mb) (hbb : ∀ x : Str, x ≠ "__name__" → mb x = bootBuiltins x) (hlim : s₁.heap.NoLimit) (hg : s₁.gens = #[])
    (ha : s₁.heap.get? a = some { cls := .type "list", data := .seq vs.toArray }) (hi : IntsAre vs ns) (hl : ns.length ≤ sizeLine) (hr : Room k callerA)
    (F : ∀ base : Heap, K.In base → base.Ns mainGlobals mg → FnOk P w K mg base CX k fa fd [x] sp) (hbind : ∀ (s : Shared) (u : Value), BindsTo s fd ⟨[u], []⟩ [(x, u)])
    (T0 : Hp) (hT : ∀ b u, T0 b = some u → (∃ ps, u = HO.tbl ps) ∧ s₁.heap.get? b = some { cls := .none, data := .fields #[] } ∧ K.lookup b = none ∧ isCodeTable s₁.heap b) (tb : TabsIn K T0)
    (hsp : ∀ H : Hp, Only H → SqL K H a (ns.map V.int) → sp [.ref a] H (fun v _ => v = .bl true) fun _ _ _ => False)
    (hCX : ∀ H e s', CX [] H s₁ (fun _ _ _ => False) e s' → False) :
    codeAny (model P w) callerA (.call (.ref fa) ⟨[.ref a], []⟩) (fun r s' => r = .ok (.ret (.bool true)) ∧ OldK s₁.heap s'.heap ∧ s'.os = s₁.os ∧ AllBare s'.gens) s₁ := by
  have rv := vals_ints hi
  have lenV := hi.length
  -- from an abstract heap in which nothing but the script may be tracked
  have core : ∀ H : Hp, Only H → SqL K H a (ns.map V.int) → HOk P w H s₁.heap → (∀ b u, H b = some u → (b = a ∧ ∃ o xs, u = .frz o (.lst xs)) ∨ T0 b = some u) → (∀ b u, H b = some u → K.lookup b = none) → TabsIn K H →
      codeAny (model P w) callerA (.call (.ref fa) ⟨[.ref a], []⟩) (fun r s' => r = .ok (.ret (.bool true)) ∧ OldK s₁.heap s'.heap ∧ s'.os = s₁.os ∧ AllBare s'.gens) s₁ := by
    intro H hO hS hok hA hK hB
    have base_of : ∀ {b : Addr} {o : Obj}, s₁.heap.get? b = some o → H b = none → (hidT s₁.heap H).get? b = some o := fun e n => hidT_get e n
    have noA : ∀ {b : Addr} {o : Obj} {es : Array DictEntry} {ep : Nat}, s₁.heap.get? b = some o → o.data = .dict es ep → H b = none := fun {b o es ep} e d => by
      cases q : H b with
      | none => rfl
      | some u =>
        rcases hA b u q with ⟨e', _⟩ | e'
        · subst e'
          rw [ha] at e; cases e
          cases d
        · rw [(hT b u e').2.1] at e; cases e
          cases d
    have nsK : ∀ {b : Addr} {m : Str → Option Value}, s₁.heap.Ns b m → (hidT s₁.heap H).Ns b m := fun {b m} ⟨o, es, ep, e, d, r⟩ => ⟨o, es, ep, base_of e (noA e d), d, r⟩
    have hKb : K.In (hidT s₁.heap H) := fun b o e => base_of (KX b o e) (by
      cases q : H b with
      | none => rfl
      | some u => rw [hK b u q] at e; cases e)
    have hM : Mod K mg (hidT s₁.heap H) := ⟨hKb, nsK hns, ⟨mb, nsK hb, hbb⟩, let ⟨mc, h1, h2⟩ := hlim; ⟨mc, nsK h1, h2⟩⟩
    have e0 : Env0 P w K mg (hidT s₁.heap H) callerA [] s₁ H := ⟨rfl, hM, fun b o e => of_hidT e, Nat.le_of_eq (hidT_size _ _), trivial, fun b hb => absurd (show b ∈ ([] : List Addr) from hb) (by simp), hok, .of_eq hg, hB⟩
    refine codeAny_mono ((F _ hKb (nsK hns)).run callerA [] s₁ H ⟨[.ref a], []⟩ [.ref a] [.ref a] _ _ hr e0 (hbind s₁ (.ref a)) (.cons rfl .nil) (hsp H hO hS)) fun r s' h => ?_
    cases r with
    | error e => exact (hCX H e s' h).elim
    | ok fl =>
      cases fl with
      | next => exact False.elim h
      | brk => exact False.elim h
      | cont => exact False.elim h
      | ret u =>
        obtain ⟨v, H', os, bare, un, hok', r', q⟩ := h
        have q' : v = .bl true := q
        subst q'
        obtain rfl : u = Value.bool true := r'
        have tabd : ∀ b u, H b = some u → T0 b = some u → ∃ qs, s'.heap.get? b = some { cls := .none, data := .fields qs } := fun b u q z => by
          obtain ⟨⟨ps, rfl⟩, _⟩ := hT b u z
          obtain ⟨more, z2⟩ := un.tbls b ps q
          obtain ⟨qs, e2, _⟩ := hok' b _ z2
          exact ⟨qs, e2⟩
        have frzd : ∀ b o ob xs, s₁.heap.get? b = some o → H b = some (.frz ob (.lst xs)) → s'.heap.get? b = some o := fun b o ob xs e z => by
          have z2 := un.frzs b ob _ z
          obtain ⟨e1, _⟩ := hok b _ z
          obtain ⟨e2, _⟩ := hok' b _ z2
          rw [e] at e1; cases e1
          exact e2
        have kep : ∀ b o, s₁.heap.get? b = some o → H b = none → s'.heap.get? b = some o := fun b o e q => un.keep b o e q (by intro z; exact absurd (show b ∈ ([] : List Addr) from z) (by simp)) (by simp)
        refine ⟨rfl, ⟨fun b o e => ?_, fun b o e => ?_⟩, os, bare⟩
        · cases q : H b with
          | none => exact .inl (kep b o e q)
          | some u =>
            rcases hA b u q with ⟨_, ob, xs, rfl⟩ | z
            · exact .inl (frzd b o ob xs e q)
            · obtain ⟨qs, e2⟩ := tabd b u q z
              obtain ⟨_, e1, _, ct⟩ := hT b u z
              rw [e] at e1; cases e1
              exact .inr (.inl ⟨ct, rfl, #[], qs, rfl, by rw [e2]; simp⟩)
        · cases q : H b with
          | none => exact ⟨o, kep b o e q⟩
          | some u =>
            rcases hA b u q with ⟨_, ob, xs, rfl⟩ | z
            · exact ⟨o, frzd b o ob xs e q⟩
            · obtain ⟨qs, e2⟩ := tabd b u q z
              exact ⟨_, e2⟩
  have tok : ∀ (H : Hp) b u, T0 b = some u → ObjOk P w H s₁.heap b u := fun H b u z => by
    obtain ⟨⟨ps, rfl⟩, e, _⟩ := hT b u z
    exact ⟨#[], e, trivial, fun pos cv hc => by cases hc⟩
  have na : T0 a = none := by
    cases z : T0 a with
    | none => rfl
    | some u => have := (hT a u z).2.1; rw [ha] at this; cases this
  cases hk : K.lookup a with
  | some o =>
    have e := KX a o hk
    rw [ha] at e
    cases e
    refine core T0 (fun b => ?_) (.inr ⟨_, vs.toArray, _, hk, rfl, rfl, rfl, by rw [List.size_toArray, lenV]; exact hl, by simpa using rv⟩) (fun b u z => tok T0 b u z) (fun b u z => .inr z) (fun b u z => (hT b u z).2.2.1) tb
    cases z : T0 b with
    | none => exact .inl rfl
    | some u => obtain ⟨⟨ps, rfl⟩, _⟩ := hT b u z; exact .inr (.inr ⟨ps, rfl⟩)
  | none =>
    have at0 : ∀ b, b ≠ a → (if b = a then some (HO.frz { cls := .type "list", data := .seq vs.toArray } (.lst (ns.map V.int))) else T0 b) = T0 b := fun b hb => if_neg hb
    refine core (fun b => if b = a then some (.frz { cls := .type "list", data := .seq vs.toArray } (.lst (ns.map V.int))) else T0 b) (fun b => ?_) (.inl (.inr ⟨{ cls := .type "list", data := .seq vs.toArray }, if_pos rfl⟩)) (fun b u z => ?_) (fun b u z => ?_) (fun b u z => ?_) (fun p hp => ?_)
    · by_cases hb : b = a
      · exact .inr (.inl ⟨_, _, if_pos hb⟩)
      · dsimp only
        rw [at0 b hb]
        cases z : T0 b with
        | none => exact .inl rfl
        | some u => obtain ⟨⟨ps, rfl⟩, _⟩ := hT b u z; exact .inr (.inr ⟨ps, rfl⟩)
    · by_cases hb : b = a
      · have z' := (if_pos hb).symm.trans z
        cases z'
        subst hb
        exact ⟨ha, by rw [List.length_map]; exact hl, vs, _, rv, ha⟩
      · exact tok _ b u ((at0 b hb).symm.trans z)
    · by_cases hb : b = a
      · have z' := (if_pos hb).symm.trans z
        cases z'
        exact .inl ⟨hb, _, _, rfl⟩
      · exact .inr ((at0 b hb).symm.trans z)
    · by_cases hb : b = a
      · rw [hb]; exact hk
      · exact (hT b u ((at0 b hb).symm.trans z)).2.2.1
    · obtain ⟨ps, t, e1, e2⟩ := tb p hp
      have hb : p.1 ≠ a := fun z => by rw [z, na] at e1; cases e1
      exact ⟨ps, t, (at0 _ hb).trans e1, e2⟩
end L2

namespace L2
open PySem PySem.Spec PyProof.Rows

end L2

/- THE LAST THEOREM (shape; LID, My.* are yours):
   My.Adr: a structure of the addresses that your layer names (classes, functions); My.Txt K t: a structure (Prop) of the equations over K;
   My.txt_mk : {K} {implicit addresses ..} (e1 : nsIn K mainGlobals "law" = some (some (.ref f))) (e2 : K.lookup f = some ⟨oc, od, .func (fnOf "law" "law" params body scope dV kV doc pm an cdv ct), sl⟩) (e3 : codeIn K cdv "law" = true) .. : ∃ t, My.Txt K t

set_option maxRecDepth 100000 in
set_option maxHeartbeats 0 in
theorem PySem.Challenge.cw_LID_holds : PySem.Challenge.rw_LID.Holds := by
  w_on; o_law; k_head; (case hw => w_witness2)
  k_fill
  refine L2.walk_of (l := PySem.Challenge.rw_LID) (n := 63) (k := 40) (x := "script") (CX := fun w => ..) (sp := fun _ => My.sp_law) rfl (by decide) rfl ⟨rfl, by decide, by decide⟩ (fun w h Y => PySem.W.kIn_of Y) ?F ?S ?C
  case F =>
    intro w mg fa h KX G hmg
    have T : ∃ t, My.Txt (L2.KOf KX) t := by
      dsimp only [L2.KOf]                          -- K must stand as «<heap const> w.params» for k_is
      refine' My.txt_mk ?e1 ?e2 ?e3 ..
      (case e1 => PySem.W.k_is)                    -- in the order: a name -> its address -> its object -> its parts
      (case e2 => PySem.W.k_is)
      ..
    obtain ⟨t, T⟩ := T
    have e0 := hmg.symm.trans (PySem.W.mg_of KX G T.law)
    cases e0                                       -- fa is the law's own address
    exact ⟨_, fun s u => .of_eq rfl, fun base kb nb => My.law_fn T kb nb⟩     -- if «.of_eq rfl» comes too early: refine' ⟨_, ?b, fun base kb nb => My.law_fn T kb nb⟩; exact fun s u => .of_eq rfl
  case S => exact fun w H a ns hl hO hS => ..
  case C => exact ..
(the tactic k_is has no namespace: write k_is) -/

/-! SHORT WORDS over the layer: a def of the text, its body, what a loop and a test want. -/
namespace L2
open PySem PySem.Spec PyProof.Rows

/-! ### the text by places -/
def defArgs (s : Stmt) : Arguments := match s with
  | .FunctionDef _ a _ _ _ _ _ _ _ _ => a
  | _ => { posonlyargs := [], args := [], vararg := none, kwonlyargs := [], kw_defaults := [], kwarg := none, defaults := [] }
def defBody (s : Stmt) : List Stmt := match s with
  | .FunctionDef _ _ b _ _ _ _ _ _ _ => b
  | _ => []
def defScope (s : Stmt) : Scope := match s with
  | .FunctionDef _ _ _ _ _ _ sc _ _ _ => sc
  | _ => { kind := .function, names := [], isGenerator := false, isCoroutine := false }

/-! ### no exception leaves a def -/
abbrev CX0 : CXT := fun _ _ _ _ _ _ => False
abbrev E0 : XK := fun _ _ _ => False
theorem pass0 {X : Cx} : Passes CX0 X E0 := fun _ _ _ _ _ _ _ h => h.elim

/-! ### a def (or method) of the text as it stands behind the top -/
structure Fun (K : PySem.W.Frag) (x qual : Str) (st : Stmt) (f : Addr) (fd : FuncData) : Prop where
  ex : ∃ (oc : Value) (od : Option Addr) (kV doc pm : Value) (an : Option Addr) (cdv ct : Value) (osl : Array (Option Value)),
    fd = PySem.W.fnOf x qual (defArgs st) (defBody st) (defScope st) .none kV doc pm an cdv ct ∧ K.lookup f = some ⟨oc, od, .func fd, osl⟩ ∧ PySem.W.codeIn K cdv qual = true
  kp : PySem.W.keepIn K (.ref f) = true
section
variable {P : Program} {w : World} {K : PySem.W.Frag} {mg : Str → Option Value} {base : Heap}
/-- THE RULE for a def: its body as a term of rules, and the reading of that term -/
theorem Fun.ok {x qual : Str} {st : Stmt} {f : Addr} {fd : FuncData} {N ps : List Str} {k : Nat} {sp : Sp} (F : Fun K x qual st f fd) (S : FnScope N ps (defScope st)) (len : ∀ vs H Q E, sp vs H Q E → vs.length = ps.length)
    (hbody : ∀ (cdv : Value) (A : Around) (outer : List Env) (s : Shared) (H : Hp) (vs : List V) (Q : VK) (E : XK), Room k (A.deeper (envOfC qual (defScope st) s.heap.objs.size f cdv)) → sp vs H Q E →
      ∃ t, PSs (cxOf CX0 P w K mg base N qual (defScope st) f cdv A outer s H E).nox (defBody st) t ∧ t { nx := fun _ H' => Q .non H', rt := Q } (start N vs) H) : FnOk P w K mg base CX0 (k + 1) f fd ps sp := by
  obtain ⟨oc, od, kV, doc, pm, an, cdv, ct, osl, rfl, lk, hcd⟩ := F.ex
  refine fn_of lk hcd S len fun A outer s H vs Q E hr hsp => ?_
  obtain ⟨t, h, q⟩ := hbody cdv A outer s H vs Q E hr hsp
  exact ⟨t, h.nox, q⟩
/-- how its arguments bind (no defaults): h is «fun _ _ _ _ _ _ us hl => match us, hl with | [_, _], _ => rfl», one _ a parameter -/
theorem Fun.binds {x qual : Str} {st : Stmt} {f : Addr} {fd : FuncData} {ps : List Str} (F : Fun K x qual st f fd)
    (h : ∀ (kV doc pm : Value) (an : Option Addr) (cdv ct : Value) (us : List Value), us.length = ps.length → bindArgs (PySem.W.fnOf x qual (defArgs st) (defBody st) (defScope st) .none kV doc pm an cdv ct) ⟨us, []⟩ = pure (ps.zip us)) : Binds K fd ps [] := by
  obtain ⟨oc, od, kV, doc, pm, an, cdv, ct, osl, rfl, lk, hcd⟩ := F.ex
  exact .all (h kV doc pm an cdv ct)
theorem fun_mk {x qual : Str} {st : Stmt} {f : Addr} {oc : Value} {od an : Option Addr} {osl : Array (Option Value)} {kV doc pm cdv ct : Value} (l : K.lookup f = some ⟨oc, od, .func (PySem.W.fnOf x qual (defArgs st) (defBody st) (defScope st) .none kV doc pm an cdv ct), osl⟩)
    (c : PySem.W.codeIn K cdv qual = true) (k : PySem.W.keepIn K (.ref f) = true) : Fun K x qual st f (PySem.W.fnOf x qual (defArgs st) (defBody st) (defScope st) .none kV doc pm an cdv ct) := ⟨⟨oc, od, kV, doc, pm, an, cdv, ct, osl, rfl, l, c⟩, k⟩
end
/-! ### expressions in short: the name that stands in the i-th slot -/
section
variable {X : Cx}
theorem pv (i : Nat) {x : Str} {pos : Pos} (hN : X.N[i]? = some x := by rfl) (hv : Vis X.env.scope x := by first | exact Or.inl rfl | exact Or.inr (Or.inl rfl) | exact Or.inr (Or.inr rfl)) (hd : (x == ("__debug__" : Str)) = false := by decide)
    (hcd : (x == ("__classdict__" : Str)) = false := by decide) : PE X (.Name x pos) (tVar i) := pe_var hN hv hd hcd
end

theorem iteT {A B : Prop} (h : A) : if true = true then A else B := by
  rw [if_pos rfl]
  exact h
/-! ### heaps -/
/-- all that was tracked is as it was -/
def Same (H H' : Hp) : Prop := ∀ b o, H b = some o → H' b = some o
theorem Same.refl (H : Hp) : Same H H := fun _ _ h => h
theorem Same.trans {H H1 H2 : Hp} (a : Same H H1) (b : Same H1 H2) : Same H H2 := fun c o h => b c o (a c o h)
theorem Same.free {H H' : Hp} (e : Same H H') {l : Addr} (h : H' l = Option.none) : H l = Option.none := by
  cases q : H l with
  | none => rfl
  | some o =>
    rw [e l o q] at h
    cases h
theorem Same.seq {K : PySem.W.Frag} {H H' : Hp} {a : Addr} {xs : List V} (e : Same H H') (h : SqL K H a xs) : SqL K H' a xs := by
  rcases h with (h | ⟨o, h⟩) | h
  · exact .inl (.inl (e _ _ h))
  · exact .inl (.inr ⟨o, e _ _ h⟩)
  · exact .inr h

end L2

set_option maxHeartbeats 4000000
/-! RULES OF MY OWN over the layer: great products and quotients, sequences by what the heap says, tuples compared, isinstance, calls by a packed contract. -/
namespace L2
open PySem PySem.Spec PyProof.Rows
open PySem.Builtin.Int (intBits)
def CMulB (i j : Int) : Prop := intBits i ≤ 9000 ∧ intBits j ≤ 9000
def CDivB (_ j : Int) : Prop := j ≠ 0 ∧ intBits j ≤ 9000
theorem noPy_bits {x y : Int} (h : intBits y ≤ 9000) : Builtin.divisionGoesByPylong x y = false := by
  by_cases h0 : y = 0
  · subst h0; exact PyProof.noPylong_small (by decide)
  · refine PyProof.noPylong_of_log2 ?_
    have q := intBits_le_iff.mp h
    have hn : y.natAbs ≠ 0 := by omega
    exact (Nat.log2_lt hn).mpr q
section
variable {X : Cx} {a b : Expr} {ta tb : TE} {pos : Pos}
theorem op_mulB : OpR X (binaryOp .Mult) (rI CMulB fun i j => .int (i * j)) := opI fun _ _ _ _ _ _ _ hc q => mul_int q (IntMulOk.of_le hc.1 hc.2 (by decide))
theorem op_fdivB : OpR X (binaryOp .FloorDiv) (rI CDivB fun i j => .int (i.fdiv j)) := opI fun _ _ _ _ _ _ _ hc q => floordiv_int hc.1 q (.inl (noPy_bits hc.2))
theorem op_eqI : OpR X (compareOp .Eq) (rI0 fun i j => .bl (decide (i = j))) := opB0 fun _ _ _ _ _ _ _ q => eq_int (by rw [Bool.beq_eq_decide_eq]; exact q)
theorem op_neI : OpR X (compareOp .NotEq) (rI0 fun i j => .bl (!decide (i = j))) := opB0 fun _ _ _ _ _ _ _ q => ne_int (by rw [bne, Bool.beq_eq_decide_eq]; exact q)
/-- the items at an address: a list's or a tuple's -/
def ItsAt (H : Hp) (p : Addr) (xs : List V) : Prop := H p = some (.tup xs) ∨ H p = some (.lst xs)
def rIxF : R2 := fun x y H Q => ∃ p xs i v, x = .ref p ∧ y = .int i ∧ ItsAt H p xs ∧ atI xs i = some v ∧ Q v H
theorem ix_any : IxR X rIxF := by
  intro value slice pins s σ H x y v u Q I rx ry h hs
  obtain ⟨p, xs, i, z, e1, e2, hq, he, q⟩ := h
  rcases hq with hq | hq
  · exact ix_tup value slice pins s σ H x y v u Q I rx ry ⟨p, xs, i, z, e1, e2, SqT.of hq, he, q⟩ hs
  · exact ix_list value slice pins s σ H x y v u Q I rx ry ⟨p, xs, i, z, e1, e2, SqL.of hq, he, q⟩ hs
/-- a def of the text that keeps a contract, called by its name -/
structure Cal (P : Program) (w : World) (K : PySem.W.Frag) (mg : Str → Option Value) (base : Heap) (x : Str) (ps : List Str) (k : Nat) (sp : Sp) : Prop where
  ex : ∃ f fd, mg x = some (.ref f) ∧ PySem.W.keepIn K (.ref f) = true ∧ Binds K fd ps [] ∧ FnOk P w K mg base CX0 k f fd ps sp
/-- a def of the text as it stands -/
structure Fnd (K : PySem.W.Frag) (mg : Str → Option Value) (x : Str) (st : Stmt) (ps : List Str) : Prop where
  ex : ∃ f fd, mg x = some (.ref f) ∧ Fun K x x st f fd ∧ Binds K fd ps []
theorem Cal.imp {P : Program} {w : World} {K : PySem.W.Frag} {mg : Str → Option Value} {base : Heap} {x : Str} {ps : List Str} {k : Nat} {sp sp' : Sp} (c : Cal P w K mg base x ps k sp) (h : ∀ vs H Q E, sp' vs H Q E → sp vs H Q E) : Cal P w K mg base x ps k sp' := by
  obtain ⟨f, fd, m, kp, b, F⟩ := c.ex
  exact ⟨f, fd, m, kp, b, F.imp h⟩
theorem pe_cal {x : Str} {ps : List Str} {j k : Nat} {sp : Sp} {p : Pos} {e : Expr} {es : List Expr} {t : TA} (c : Cal X.prog X.w X.K X.mg X.base x ps j sp) (hr : Room k X.A) (hg : Gl X x) (ha : PA X (e :: es) t) (hjk : j ≤ k := by decide)
    (hdb : (x == ("__debug__" : Str)) = false := by decide) (he : starEach (e :: es) X.env = (false, eval e X.env) :: starEach es X.env := by rfl) (hpl : (backTo pos (starEach es X.env)).any (·.1) = false := by rfl) :
    PE X (.Call (.Name x p) (e :: es) [] pos) (tCall sp [] E0 t) := by
  obtain ⟨f, fd, m, kp, b, F⟩ := c.ex
  exact pe_call F (hr.mono hjk) hg m kp b .nil pass0 ha hdb he hpl
theorem Fnd.ok {P : Program} {w : World} {K : PySem.W.Frag} {mg : Str → Option Value} {base : Heap} {x : Str} {st : Stmt} {N ps : List Str} {k : Nat} {sp : Sp} (F : Fnd K mg x st ps) (S : FnScope N ps (defScope st)) (len : ∀ vs H Q E, sp vs H Q E → vs.length = ps.length)
    (hbody : ∀ (f : Addr) (cdv : Value) (A : Around) (outer : List Env) (s : Shared) (H : Hp) (vs : List V) (Q : VK) (E : XK), Room k (A.deeper (envOfC x (defScope st) s.heap.objs.size f cdv)) → sp vs H Q E →
      ∃ t, PSs (cxOf CX0 P w K mg base N x (defScope st) f cdv A outer s H E).nox (defBody st) t ∧ t { nx := fun _ H' => Q .non H', rt := Q } (start N vs) H) : Cal P w K mg base x ps (k + 1) sp := by
  obtain ⟨f, fd, m, Fu, b⟩ := F.ex
  exact ⟨f, fd, m, Fu.kp, b, Fu.ok S len (hbody f)⟩
end
theorem iteD {p : Prop} [Decidable p] {A B : Prop} (h1 : p → A) (h2 : ¬ p → B) : if decide p = true then A else B := by
  by_cases h : p
  · rw [decide_eq_true h]; exact h1 h
  · rw [decide_eq_false h]; exact h2 h
theorem iteDn {p : Prop} [Decidable p] {A B : Prop} (h1 : ¬ p → A) (h2 : p → B) : if (!decide p) = true then A else B := by
  by_cases h : p
  · rw [decide_eq_true h]; exact h2 h
  · rw [decide_eq_false h]; exact h1 h
/-- all but what lies at b is as it was -/
def Ext (b : Addr) (H H' : Hp) : Prop := ∀ a o, a ≠ b → H a = some o → H' a = some o
theorem Ext.upd (b : Addr) (H : Hp) (o : HO) : Ext b H (L2.upd H b o) := fun a u n h => by rw [upd_ne n]; exact h
theorem same_new {H : Hp} {p : Addr} (h : H p = none) (o : HO) : Same H (L2.upd H p o) := fun b u q => by rw [upd_ne (ne_of_none q h)]; exact q
end L2

/-! A comprehension of one clause without a test, its element any expression; free names are the outer def's cells. -/
namespace L2
open PySem PySem.Spec PyProof.Rows
theorem HOk.but {P : Program} {w : World} {H : Hp} {h h' : Heap} {C : Addr} (x : HOk P w H h) (n : H C = none) (k : ∀ b u, b ≠ C → h.get? b = some u → h'.get? b = some u) : HOk P w H h' := fun a o e =>
  (x a o e).stay (fun b u hb q => k b u (by rcases hb with rfl | hb; exact ne_of_none e n; exact ne_of_none hb n) q) (fun _ q => q) (fun _ _ q => q) fun _ _ _ q => q
theorem Un.but {fs ex : List Addr} {H H' : Hp} {h h1 h2 : Heap} {C : Addr} (u : Un fs ex H H' h h1) (hC : h.get? C = none) (k : ∀ b u, b ≠ C → h1.get? b = some u → h2.get? b = some u) : Un fs ex H H' h h2 where
  keep := fun b o q n f e => k b o (by rintro rfl; rw [hC] at q; cases q) (u.keep b o q n f e)
  slot := fun b o q n f e => by
    obtain ⟨sl, z⟩ := u.slot b o q n f e
    exact ⟨sl, k b _ (by rintro rfl; rw [hC] at q; cases q) z⟩
  free := u.free
  there := fun b o q e => by
    obtain ⟨o', z⟩ := u.there b o q e
    exact ⟨o', k b _ (by rintro rfl; rw [hC] at q; cases q) z⟩
  tups := u.tups
  frzs := u.frzs
  tbls := u.tbls
/-- the context of a comprehension's block -/
def compCx (X : Cx) (N : List Str) (scope : Scope) (cl : List (Str × Addr)) (C : Addr) (s : Shared) (H : Hp) (ex : List Addr) : Cx :=
  { X with N := N, s₀ := s, H₀ := H, env := compEnvC scope cl C X.env, outer := X.stack, ex := ex, fn := fun _ => false, pn := [], xe := fun _ _ => False }
/-- the values of the free names, from the slots js -/
def freeV (σ : St) (js : List Nat) : St := js.map fun j => (σ[j]?).join
section
variable {X : Cx}
end
end L2

namespace L2
open PySem PySem.Spec PyProof.Rows
theorem Vals.getR : ∀ {xs : List V} {us : List Value} {i : Nat} {u : Value}, Vals xs us → us[i]? = some u → ∃ x, xs[i]? = some x ∧ RelV x u
  | _, _, _, _, .nil, e => by simp at e
  | _, _, 0, _, .cons r _, e => by simp at e; subst e; exact ⟨_, rfl, r⟩
  | _, _, i + 1, u, .cons _ t, e => by
    obtain ⟨x, h1, h2⟩ := Vals.getR (i := i) (u := u) t (by simpa using e)
    exact ⟨x, by simpa using h1, h2⟩
section
variable {X : Cx}
end
end L2

/-! An own exception without methods: its class attribute, isinstance, a handler that names a base of it. -/
namespace L2
open PySem PySem.Spec PyProof.Rows PySem.W
/-- what the text's classes must say of a raised class C -/
structure ExcCls (K : PySem.W.Frag) (C : Addr) : Prop where
  ga : findIn K (.ref C) "__getattribute__" = some (some (.builtin "BaseException.__getattribute__"))
  noga : findIn K (.ref C) "__getattr__" = some none
  cl : findIn K (.ref C) "__class__" = some (some (.builtin "object.__class__"))
  sub : subIn K (.ref C) (.type "BaseException") = some true
  obj : subIn K (.ref C) (.type "object") = some true
  own : (clsIn K C).isSome = true
section
variable {prog : Program} {w : World} {A : Around} {E : Value → Shared → Prop} {h : Heap} {g : Array GenState} {d : Drawn} {t : Nat} {os : OsState} {a C : Addr} {o : Obj} {K : PySem.W.Frag}
theorem cls_it (own : (clsIn K C).isSome = true) {M : Model} (X : K.In h) : Looks M h (isType (.ref C)) true := by
  obtain ⟨cd, hc⟩ := Option.isSome_iff_exists.mp own
  unfold clsIn at hc
  split at hc
  · rename_i ho
    intro A' Q' E' s' k q
    unfold isType loadHead
    exact wpAny_bind (wpAny_loadPart (k _ _ (X _ _ ho)) (wpAny_pure q))
  · cases hc
theorem exc_class_get {R : Result → Shared → Prop} (F1 : ExcCls K C) (X : K.In h) (hx : h.get? a = some o) (hc : o.cls = .ref C) (hq : R (.ok (.ret (.ref C))) ⟨h, g, d, t, os⟩) :
    codeAny (model prog w) A (.call (.builtin "getset_descriptor.__get__") ⟨[.builtin "object.__class__", .ref a, .ref C], []⟩) R ⟨h, g, d, t, os⟩ := by
  have hT5 : (⟨h, g, d, t, os⟩ : Shared).TypeIs (.builtin "object.__class__") "getset_descriptor" := F.typeOf_object_class
  have LS : Looks (model prog w) h (isSubtype (.ref C) (.type (".".intercalate ("object.__class__".cutAt '.').dropLast))) true := by
    rw [show (".".intercalate ("object.__class__".cutAt '.').dropLast) = "object" from by decide +kernel]
    exact looks_subIn X F1.obj
  refine codeAny_call_builtin F.slot_gs_get.plain F.entry_gs_get (F.slot_gs_get.check _ _ _ _ _ _ _ _ hT5 (F.args_gs_get _ _ _) ?_)
  repeat (any_goals (first | assumption | (with_reducible refine wpAny_loadPart_at hx ?_; rw [hc]) | with_reducible refine LS.at ?_ | wp_step))
  refine ⟨Code.quiet_builtin _ (by decide +kernel), codeAny_builtin F.entry_object_class ?_⟩
  repeat (any_goals (first | assumption | (with_reducible refine wpAny_loadPart_at hx ?_; rw [hc]) | wp_step))
theorem exc_class_entry {tk : Tok} {Q : Fin → Shared → Prop} (F1 : ExcCls K C) (X : K.In h) (hx : h.get? a = some o) (hc : o.cls = .ref C) (hq : Q (.done (.ret (.ref C))) ⟨h, g, d, t, os⟩) :
    wpAny (model prog w) A (Builtin.«object.__getattribute__» ⟨[.ref a, .str "__class__" tk], []⟩) Q E ⟨h, g, d, t, os⟩ := by
  have hT5 : (⟨h, g, d, t, os⟩ : Shared).TypeIs (.builtin "object.__class__") "getset_descriptor" := F.typeOf_object_class
  have f5 := F.typeOf_object_class
  have f6 := F.slot_gs_get.lookup
  have f7 := F.slot_gs_set.lookup
  have LC := looks_findIn (M := model prog w) X F1.cl
  repeat (any_goals (first | assumption | (with_reducible refine wpAny_loadPart_at hx ?_; rw [hc]) | with_reducible refine LC.at ?_ | wp_step))
  refine exc_class_get F1 X hx hc ?_
  repeat (any_goals (first | assumption | wp_step))
theorem exc_check_ga {M : Model} {nameV : Value} {Q : Unit → Shared → Prop} (F1 : ExcCls K C) (X : K.In h) (hx : h.get? a = some o) (hc : o.cls = .ref C) (hq : Q () ⟨h, g, d, t, os⟩) :
    wpAny M A (checkBuiltinCall "BaseException.__getattribute__" ⟨[.ref a, nameV], []⟩) Q E ⟨h, g, d, t, os⟩ := by
  have hk : builtinKind "BaseException.__getattribute__" = some .slot := by decide +kernel
  have hsplit : splitId "BaseException.__getattribute__" = some ("BaseException", "__getattribute__") := by decide +kernel
  have LS := looks_subIn (M := M) X F1.sub
  have ha := F.args_bexc_ga (.ref a) nameV
  simp only [checkBuiltinCall, hk, hsplit]
  refine wpAny_bind ?_
  unfold isInstance
  repeat (first | (with_reducible refine wpAny_loadPart_at hx ?_; rw [hc]) | with_reducible refine LS.at ?_ | wp_step)
  exact hq
theorem exc_class_attr {Q : Option Value → Shared → Prop} (F1 : ExcCls K C) (FX : ExcAttrFacts "ValueError") (X : K.In h) (hx : h.get? a = some o) (hc : o.cls = .ref C) (hq : Q (some (.ref C)) ⟨h, g, d, t + 1, os⟩) :
    wpAny (model prog w) A (getAttr? (.ref a) "__class__") Q E ⟨h, g, d, t, os⟩ := by
  have f3 := FX.ga.bind (.ref a)
  have hx0 : ∀ expr : Bool, (expr && onTheHeap (Value.builtin "BaseException.__getattribute__")) = false := fun expr => by cases expr <;> rfl
  have hx2 : (Value.builtin "BaseException.__getattribute__" == Value.builtin "object.__getattribute__") = false := by decide +kernel
  have hx1 : (onTheHeap (Value.ref C) && Value.builtin "BaseException.__getattribute__" == Value.builtin "object.__getattribute__") = false := by rw [hx2]; rfl
  have L1 := looks_findIn (M := model prog w) X F1.ga
  have L2 := looks_findIn (M := model prog w) X F1.noga
  unfold getAttr? getAttrBy?
  repeat (any_goals (first | assumption | (with_reducible refine wpAny_loadPart_at hx ?_; rw [hc]) | with_reducible refine L1.at ?_ | with_reducible refine L2.at ?_ | wp_step))
  refine codeAny_call_builtin FX.ga.plain F.entry_bexc_ga (exc_check_ga F1 X hx hc (exc_class_entry F1 X hx hc ?_))
  repeat (any_goals (first | assumption | wp_step))
/-- isinstance may ask an exception of the class C -/
theorem kitx_exc (F1 : ExcCls K C) : KitX K (.ref a) (.ref C) (fun h => ∃ o, h.get? a = some o ∧ o.cls = .ref C) where
  ty := fun M h _ p => by
    obtain ⟨o, h1, h2⟩ := p
    exact h2 ▸ (Looks.ld h1).andThen .now
  it := fun _ _ X _ => cls_it F1.own X
  ne := fun h tp dd its n sl X htp => by
    obtain ⟨cd, hc⟩ := Option.isSome_iff_exists.mp F1.own
    refine Bool.eq_false_iff.mpr fun q => ?_
    have e : C = tp := Value.ref.inj (beq_iff_eq.mp q)
    subst e
    unfold clsIn at hc
    split at hc
    · rename_i ho
      have z := (X _ _ ho).symm.trans htp
      cases z
    · cases hc
  ca := fun {_ _ _ _ _ s} X p k => by
    obtain ⟨hh, gg, dd, tt, oo⟩ := s
    obtain ⟨o, h1, h2⟩ := p
    exact exc_class_attr F1 F.excAttr_ValueError X h1 h2 k
/-- a handler that names D, of an exception of a class C below D -/
theorem exc_match {M : Model} {D : Addr} {Q : Bool → Shared → Prop} (X : K.In h) (hx : h.get? a = some o) (hc : o.cls = .ref C) (own : (clsIn K D).isSome = true) (ty : typeIn K (.ref D) = some (.type "type")) (base : subIn K (.ref D) (.type "BaseException") = some true)
    (sub : subIn K (.ref C) (.ref D) = some true) (hq : Q true ⟨h, g, d, t, os⟩) : wpAny M A (excMatches (.ref a) (.ref D)) Q E ⟨h, g, d, t, os⟩ := by
  have f := tc_notTuple
  have L1 := looks_typeIn (M := M) X ty
  have L2 := cls_it (M := M) own X
  have L3 := looks_subIn (M := M) X base
  have L4 := looks_subIn (M := M) X sub
  unfold excMatches isInstance isExcClass
  repeat (first | (with_reducible refine wpAny_loadPart_at hx ?_; rw [hc]) | with_reducible refine L1.at ?_ | with_reducible refine L2.at ?_ | with_reducible refine L3.at ?_ | with_reducible refine L4.at ?_ | wp_step)
  exact hq
end
end L2

/-! raise of an own exception, how it leaves a def, how it is caught. -/
namespace L2
open PySem PySem.Spec PyProof.Rows PySem.W
theorem exc_obj {K : PySem.W.Frag} {h : Heap} {C : Addr} {bmB : List Value} {newId : String} (X : K.In h) (q : excIn K C bmB newId = true) :
    ∃ bm N nm qn bs hd sn sub ab col dd k0 k1 k2 k3 k5 mN, h.get? C = some (excClassObj nm qn C N bs bm hd sn sub ab col dd k0 k1 k2 k3 k5 newId) ∧ h.Ns N mN ∧ mN "__init__" = none ∧ OwnTail h bmB bm := by
  unfold excIn at q
  split at q
  case h_2 => cases q
  rename_i dx cx sx hx
  split at q
  case h_2 => cases q
  rename_i Cx bx a0 a1 a2 a3 nx a5 e1 e2
  simp only [Bool.and_eq_true, beq_iff_eq, Bool.not_eq_true'] at q
  obtain ⟨⟨⟨⟨⟨q1, q2⟩, q3⟩, q4⟩, q5⟩, q6⟩ := q
  subst q1 q2
  obtain ⟨c1, c2, c3, c4, c5, c6, c7, c8, c9, c10, c11⟩ := cx
  dsimp only at e1 q3 q5 q6
  subst e1 q3
  obtain ⟨lx⟩ := sx
  simp only at e2
  subst e2
  exact ⟨bx, c4, c1, c5, c2, c6, c7, c8, c9, c10, dx, a0, a1, a2, a3, a5, _, X _ _ hx, .of_isNs (isNs_of_in X q5), nsMap_none_of_in X q5 q6, tail_of_in X q4⟩
section
variable {X : Cx}
def tRaise (R : Hp → Prop) (te : TE) : TS := fun _ σ H => te σ H fun x H1 => ([x] : List V).length = 1 ∧ R H1
theorem ps_raise {x : Str} {C : Addr} {e0 : Expr} {te : TE} {np cpos pos : Pos} {R : Hp → Prop} {B newId initId : String} {bmB : List Value} (FB : ExcBaseFacts B newId initId bmB) (hbB : bmB.contains (.type "BaseException") = true)
    (q : excIn X.K C bmB newId = true) (hg : Gl X x) (hm : X.mg x = some (.ref C)) (hc : X.calm = true) (he : PE X e0 te)
    (leave : ∀ (pins : List (Addr × Obj)) (σ : St) (H : Hp) (s : Shared) (h' : Heap) (e : Addr) (vs : List Value), Inv X pins σ H s → Heap.MadeExcOf s.heap h' e (.ref C) vs → R H → X.xe (.ref e) { s with heap := h' })
    (hd : (x == ("__debug__" : Str)) = false := by decide) (hs : starEach [e0] X.env = [(false, eval e0 X.env)] := by rfl) :
    PS X (.Raise (some (.Call (.Name x np) [e0] [] cpos)) none pos) (tRaise R te) := by
  intro pins s σ H D I h
  obtain ⟨bm, N, nm, qn, bs, hdc, sn, sub, ab, col, dd, k0, k1, k2, k3, k5, mN, hC, hN, hni, T⟩ := exc_obj I.ok.mod.kin q
  refine wpAny_Raise_call_subT (C := C) (nm := nm) (q := qn) (N := N) (bs := bs) (bm := bm) (hdct := hdc) (sn := sn) (sub := sub) (ab := ab) (col := col) (dd := dd) (k0 := k0) (k1 := k1) (k2 := k2) (k3 := k3) (k5 := k5) (newId := newId) FB (mN := mN) (T.hasType hbB) (I.ok.hd hc) (by rw [hs]; rfl) hni (ld_glob I hg hm ⟨rfl, ?_⟩ hd)
  have ar := (pa_cons he (pa_nil (X := X)) (by rw [hs]; rfl)) cpos pins s σ H (fun vs H1 => vs.length = 1 ∧ R H1) I h
  rw [hs] at ar ⊢
  refine Calls.evalArgs_plain (wpAny_mono ar (fun us s1 ⟨vs, H1, I1, r1, q0, q1⟩ => ?_) fun _ _ y => y)
  have hl : us.length ≤ sizeLine := by
    rw [← r1.length, q0]
    decide
  exact ⟨rfl, hl, I1.bk _ _ hC, hN.keeps I1.bk, T.keeps I1.bk, fun h' e me => leave pins σ H1 s1 h' e _ I1 me q1⟩
end
end L2

/-! try: a body whose call raises an own exception, one handler that names a base of it, a suite that hands back. -/
namespace L2
open PySem PySem.Spec PyProof.Rows PySem.W
/-- other pins, another wish -/
abbrev Cx.pinw (X : Cx) (pn : List (Addr × Obj)) (xe : Value → Shared → Prop) : Cx := { X with pn := pn, xe := xe }
/-- within a handler's suite -/
abbrev Cx.hand (X : Cx) (e : Addr) (pn : List (Addr × Obj)) : Cx := { X with A := X.A.mark (some (.ref e)), calm := false, pn := pn, xe := fun _ _ => False }
theorem Cx.Ok.pinw {X : Cx} (ok : X.Ok) (pn : List (Addr × Obj)) (xe : Value → Shared → Prop) : (X.pinw pn xe).Ok :=
  ⟨ok.mod, ok.kind, ok.glob, ok.blt, ok.above, ok.inj, ok.has, ok.cab, ok.hd, ok.frames, ok.stk, ok.exf, ok.bs, ok.bsz, ok.noex, ok.exfs, ok.funs, ok.frf, ok.tab⟩
theorem Cx.Ok.hand {X : Cx} (ok : X.Ok) (e : Addr) (pn : List (Addr × Obj)) : (X.hand e pn).Ok :=
  ⟨ok.mod, ok.kind, ok.glob, ok.blt, ok.above, ok.inj, ok.has, ok.cab, fun z => absurd z Bool.false_ne_true, ok.frames, ok.stk, ok.exf, ok.bs, ok.bsz, ok.noex, ok.exfs, ok.funs, ok.frf, ok.tab⟩
section
variable {X : Cx} {pins : List (Addr × Obj)} {σ : St} {H : Hp} {s : Shared}
theorem Inv.pinw (I : Inv X pins σ H s) (xe : Value → Shared → Prop) : Inv (X.pinw (X.pn ++ pins) xe) [] σ H s := ⟨I.ok.pinw _ _, I.os, I.bare, I.base, I.loc, I.cell, I.free, I.freeC, fun p hp => I.pin p (by simpa using hp), I.hok, I.len⟩
/-- what is wanted of an exception: the suite's reading at any frame that holds it -/
def xkOf (C : Addr) (N : Nat) (ie : Nat) (D : Ends) (ts : Addr → TS) : XK := fun c _ H => c = .ref C ∧ ∀ (e : Addr) (σ : St), H e = none → σ.length = N → σ[ie]? = some (some (.ref e)) → ts e { nx := fun _ _ => False, rt := D.rt } σ H
theorem objOk_there {P : Program} {w : World} {H : Hp} {h : Heap} {a : Addr} {o : HO} (x : ObjOk P w H h a o) : ∃ ob, h.get? a = some ob := by
  cases o with
  | lst xs => obtain ⟨_, _, _, _, e⟩ := x; exact ⟨_, e⟩
  | tup xs => obtain ⟨_, _, _, ob, e, _⟩ := x; exact ⟨_, e⟩
  | dK kvs => obtain ⟨_, _, _, _, o, _, _, e, _⟩ := x; exact ⟨_, e⟩
  | dT kvs => obtain ⟨_, _, _, _, o, _, _, e, _⟩ := x; exact ⟨_, e⟩
  | set S n => obtain ⟨o, _, _, _, e, _⟩ := x; exact ⟨_, e⟩
  | ins C dx fs => obtain ⟨_, _, _, e, _⟩ := x; exact ⟨_, e⟩
  | own y => obtain ⟨_, e⟩ := x; exact ⟨_, e⟩
  | xd fs => obtain ⟨_, ⟨_, _, _, e, _⟩, _⟩ := x; exact ⟨_, e⟩
  | rng lo hi => obtain ⟨_, _, _, e⟩ := x; exact ⟨_, e⟩
  | frz ob u => obtain ⟨e, _⟩ := x; exact ⟨_, e⟩
  | tbl ps => obtain ⟨_, e, _⟩ := x; exact ⟨_, e⟩
  | met f y => exact ⟨_, (show h.get? a = some _ from x)⟩
  | ext φ => obtain ⟨_, ⟨_, e⟩, _⟩ := x; exact ⟨_, e⟩
/-- the names' own record has changed: nothing is known of the names -/
theorem Inv.names {h' : Heap} {m' : Str → Option Value} {t' : Nat} (I : Inv X pins σ H s) (hn : h'.Ns X.env.locals m') (hs : Heap.SameBut X.env.locals s.heap h') : Inv X pins (List.replicate X.N.length none) H { s with heap := h', toks := t' } := by
  have k : ∀ b u, b ≠ X.env.locals → s.heap.get? b = some u → h'.get? b = some u := fun b u hb e => hs.extBut b u hb e
  refine ⟨I.ok, I.os, I.bare, I.base.but (Heap.get?_none_of_le I.ok.above) k, ⟨m', hn, fun i x v _ e _ => ?_⟩, fun x c e => ?_, I.free, I.freeC, fun p hp => ?_, I.hok.but I.free k, List.length_replicate⟩
  · rw [List.getElem?_replicate] at e
    split at e <;> cases e
  · obtain ⟨v, o, h1, h2⟩ := I.cell x c e
    exact ⟨v, o, k c o (I.cne x c e) h1, h2⟩
  · obtain ⟨h1, h2⟩ := I.pin p hp
    exact ⟨k _ _ h2.2.1 h1, h2⟩
end
end L2

/-! A def that raises an own exception, and a def that catches it and asks of which classes it is. -/
namespace L2
open PySem PySem.Spec PyProof.Rows PySem.W
theorem pss_neverX {X : Cx} {st : List Stmt} : PSs X st tNever := fun _ _ _ _ _ _ h => h.elim
section
variable {X : Cx}
/-- isinstance of the exception that is held, and a class, a built-in one, a tuple of classes -/
theorem call_isX1 {K : PySem.W.Frag} {e C : Addr} {oe : Obj} (hK : X.K = K) (hp : (e, oe) ∈ X.pn) (hc : oe.cls = .ref C) (F1 : ExcCls K C) : CallR X (.builtin "isinstance") (fun xs H Q => ∃ c b, xs = [.ref e, .ref c] ∧ kitOne K (.ref C) (.ref c) = some b ∧ Q (.bl b) H) := by
  subst hK
  intro pins s σ H xs us Q I r h
  obtain ⟨c, b, rfl, e1, q⟩ := h
  obtain ⟨u, w', rfl, r1, r2⟩ := vals2 r
  cases r1; cases r2
  exact kia_one (kitx_exc F1) I.kIn ⟨oe, (I.pin (e, oe) (List.mem_append_left _ hp)).1, hc⟩ e1 (fun z => nomatch z) fun tk => ⟨.bl b, H, I.tok _, rfl, q⟩
theorem call_isXB {K : PySem.W.Frag} {e C : Addr} {oe : Obj} (hK : X.K = K) (hp : (e, oe) ∈ X.pn) (hc : oe.cls = .ref C) (F1 : ExcCls K C) : CallR X (.builtin "isinstance") (fun xs H Q => ∃ n b, xs = [.ref e, .ty n] ∧ kitOne K (.ref C) (.type n) = some b ∧ Q (.bl b) H) := by
  subst hK
  intro pins s σ H xs us Q I r h
  obtain ⟨c, b, rfl, e1, q⟩ := h
  obtain ⟨u, w', rfl, r1, r2⟩ := vals2 r
  cases r1; cases r2
  exact kia_one (kitx_exc F1) I.kIn ⟨oe, (I.pin (e, oe) (List.mem_append_left _ hp)).1, hc⟩ e1 (fun z => nomatch z) fun tk => ⟨.bl b, H, I.tok _, rfl, q⟩
end
theorem cls_of_mro {K : PySem.W.Frag} {C : Addr} {v : Value} (h : mroIn K C v = some true) : (clsIn K C).isSome = true := by
  unfold mroIn at h
  cases q : clsIn K C with
  | none => rw [q] at h; cases h
  | some cd => rfl
/-- what the text's classes must say: C the raised one, D0 the base that the handler names, cs the others -/
structure RefFacts (K : PySem.W.Frag) (C D0 : Addr) (cs : List Addr) : Prop where
  exc : ExcCls K C
  inn : excIn K C [.type "ValueError", .type "Exception", .type "BaseException", .type "object"] "ValueError.__new__" = true
  own : (clsIn K D0).isSome = true
  ty : typeIn K (.ref D0) = some (.type "type")
  base : subIn K (.ref D0) (.type "BaseException") = some true
  sub : subIn K (.ref C) (.ref D0) = some true
  any : kitAny K (.ref C) (cs.map Value.ref) = some false
  self : kitOne K (.ref C) (.ref C) = some true
  val : kitOne K (.ref C) (.type "ValueError") = some true
end L2

namespace PySem
open Sem (wp)
/-- the exception has no other one behind it -/
def Bare2 (h : Heap) (e : Addr) : Prop := ∃ oe vs, h.get? e = some oe ∧ oe.data = .fields vs ∧ vs[2]? = some .none
section
variable {M : Model} {A : Around} {E : Value → Shared → Prop} {s : Shared} {base : Heap} {env : Env} {outer : List Env} {L e : Addr} {oe : Obj} {vs : Array Value} {head cls a0 : Value} {hadNext : Bool} {Q : Unit → Shared → Prop}
theorem fr_ne {h : Heap} {l : List Env} (hl : h.FunFrames base l) (he : h.get? e = some oe) (hd : oe.data = .fields vs) : e ∉ l.filterMap (fun x => x.frame) := fun hm => by
  obtain ⟨_, o, z, nf⟩ := hl.mem hm
  rw [he] at z; cases z
  exact nf _ hd
theorem tailX (hfr : A.frames = some (env :: outer)) (hl : s.heap.FunFrames base (env :: outer)) (hf : env.frame = some L) (he : s.heap.get? e = some oe) (hk : base.StaysIn s.heap) (hen : base.get? e = none)
    (hd : oe.data = .fields vs) (hs : 2 < vs.size) (h0 : vs[0]? = some a0) (h2 : vs[2]? = some .none)
    (h : ∀ h', base.StaysIn h' → h'.FunFrames base (env :: outer) → h'.TracedAtW base e oe.cls a0 (rawInt ↑L) → Bare2 h' e → s.heap.UpToSlots h' → Q () { s with heap := h' }) :
    wpAny M A (do
      let a ← frameOf env
      let pl ← entryPlaceOf L hadNext
      let b ← EntryCells.newEntry head a Value.none (rawInt ↑L) Value.none pl
      setField (Value.ref e) 1 b) Q E s := by
  refine wpAny_bind (wpAny_frameOf_fun hfr hl hf fun h1 so => ?_)
  refine wpAny_bind (wpAny_entryPlaceOf fun pl hpl => ?_)
  have he1 : h1.get? e = some oe := by rw [so.2.1 e (fr_ne hl he hd)]; exact he
  unfold EntryCells.newEntry newFields
  refine wpAny_bind (wpAny_newObj_type ?_ (by
    rcases hpl with rfl | ⟨_, _, _, _, _, _, _, rfl⟩ <;> (show 11 ≤ sizeLine + 2; decide)))
  generalize hT : h1.objs.size = T
  generalize hoT : ({ cls := .type "traceback", data := .fields ([head, Value.ref L, Value.none, rawInt ↑L, Value.none] ++ if pl.isEmpty = true then List.replicate 6 Value.none else pl).toArray } : Obj) = oT
  have nf : oT.isFreed = false := by rw [← hoT]; rfl
  have hT2 : (h1.push oT).get? T = some oT := by rw [← hT]; exact Heap.get?_push_size h1 nf
  have hT1 : h1.get? T = none := Heap.get?_none_of_le (by rw [hT]; exact Nat.le_refl _)
  have k1 : base.StaysIn h1 := fun b o hb => by
    rw [so.2.1 b (fun hm => by
      have := (hl.mem hm).1
      rw [hb] at this; cases this)]
    exact hk b o hb
  have eT : e ≠ T := fun z => by rw [z, hT1] at he1; cases he1
  refine wpAny_setField (Heap.get?_push_of_some oT he1) hd (by omega) ?_
  have up : ∀ b, b ≠ e → ((h1.push oT).update e (Obj.mapFields fun x => x.setIfInBounds 1 (.ref T))).get? b = (h1.push oT).get? b := fun b hb => Heap.get?_update_ne _ _ _ _ hb
  have nfe : (Obj.mapFields (fun x => x.setIfInBounds 1 (.ref T)) oe).isFreed = false := by
    obtain ⟨c, d, dt, sl⟩ := oe
    have hd : dt = .fields vs := hd
    subst hd; rfl
  have se := Heap.get?_update_self (Obj.mapFields fun x => x.setIfInBounds 1 (.ref T)) (Heap.get?_push_of_some oT he1) nfe
  have oe' : (Obj.mapFields (fun x => x.setIfInBounds 1 (.ref T)) oe).cls = oe.cls ∧ (Obj.mapFields (fun x => x.setIfInBounds 1 (.ref T)) oe).data = .fields (vs.setIfInBounds 1 (.ref T)) := by
    obtain ⟨c, d, dt, sl⟩ := oe
    have hd : dt = .fields vs := hd
    subst hd; exact ⟨rfl, rfl⟩
  have bT : base.get? T = none := by
    cases q : base.get? T with
    | none => rfl
    | some o => have := k1 T o q; rw [hT1] at this; cases this
  have keep : ∀ b o, h1.get? b = some o → b ≠ e → ((h1.push oT).update e (Obj.mapFields fun x => x.setIfInBounds 1 (.ref T))).get? b = some o := fun b o hb hn => by
    rw [up b hn]; exact Heap.get?_push_of_some oT hb
  have f2 : (vs.setIfInBounds 1 (.ref T))[2]? = some .none := by rw [Array.getElem?_setIfInBounds_ne (by decide)]; exact h2
  refine h _ (fun b o hb => keep b o (k1 b o hb) (fun z => by rw [z, hen] at hb; cases hb)) ?_ ⟨_, _, T, oT, _, se, ⟨oe'.1, ?_⟩, oe'.2, ?_, bT, fun z => eT z.symm, ?_, by rw [← hoT], ?_⟩ ⟨_, _, se, oe'.2, f2⟩ ?_
  · refine Heap.FunFrames.of_keeps (h := h1) (fun b o hb hn => ⟨o, keep b o hb fun z => ?_, rfl⟩) (Heap.FunFrames.of_slotsOnly so hl)
    rw [z, he1] at hb; cases hb
    exact hn _ hd
  · rw [Array.getElem?_setIfInBounds_ne (by decide)]; exact h0
  · rw [Array.getElem?_setIfInBounds_self_of_lt (by omega)]
  · rw [up T (fun z => eT z.symm)]; exact hT2
  · rfl
  · intro b o hb hn
    obtain ⟨sl, q⟩ := so.2.2 b o hb
    refine ⟨sl, keep b _ q fun z => ?_⟩
    rw [z, he] at hb; cases hb
    exact hn _ hd
theorem flightX (hk : base.StaysIn s.heap) (hl : s.heap.FunFrames base (env :: outer)) (ht : s.heap.TracedAtW base e cls a0 head) (b2 : Bare2 s.heap e)
    (h : ∀ h', base.StaysIn h' → h'.FunFrames base (env :: outer) → h'.TracedW base e cls a0 → Bare2 h' e → s.heap.UpToSlots h' → Q () { s with heap := h' }) : wpAny M A (setFlight (.ref e) none) Q E s := by
  obtain ⟨oe, vs, T, oT, ts, he, ⟨hc, h0⟩, hd, h1, hbT, hTe, hT, hdT, h3⟩ := ht
  obtain ⟨oe2, vs2, q1, q2, q3⟩ := b2
  rw [he] at q1; cases q1
  rw [hd] at q2; cases q2
  have l3 : 3 < ts.size := by
    rcases Nat.lt_or_ge 3 ts.size with z | z
    · exact z
    · rw [Array.getElem?_eq_none z] at h3; cases h3
  refine wpAny_setFlight_none he hd h1 hT hdT l3 ?_
  have up : ∀ b, b ≠ T → (s.heap.update T (Obj.mapFields fun x => x.setIfInBounds 3 Value.none)).get? b = s.heap.get? b := fun b hb => Heap.get?_update_ne _ _ _ _ hb
  have oT' : (Obj.mapFields (fun x => x.setIfInBounds 3 Value.none) oT).data = .fields (ts.setIfInBounds 3 Value.none) ∧ (Obj.mapFields (fun x => x.setIfInBounds 3 Value.none) oT).isFreed = false := by
    obtain ⟨c, d, dt, sl⟩ := oT
    have hdT : dt = .fields ts := hdT
    subst hdT; exact ⟨rfl, rfl⟩
  have sT := Heap.get?_update_self (Obj.mapFields fun x => x.setIfInBounds 3 Value.none) hT oT'.2
  have he' : (s.heap.update T (Obj.mapFields fun x => x.setIfInBounds 3 Value.none)).get? e = some oe := by rw [up e hTe.symm]; exact he
  have nT : ∀ b o, s.heap.get? b = some o → (∀ vs, o.data ≠ .fields vs) → b ≠ T := fun b o hb hn z => by rw [z, hT] at hb; cases hb; exact hn _ hdT
  refine h _ (fun b o hb => ?_) ?_ ⟨oe, vs, T, _, _, he', ⟨hc, h0⟩, hd, h1, hbT, hTe, sT, oT'.1, ?_⟩ ⟨oe, vs, he', hd, q3⟩ (fun b o hb hn => ⟨o.slots, by rw [up b (nT b o hb hn)]; exact hb⟩)
  · rw [up b (fun z => by rw [z, hbT] at hb; cases hb)]; exact hk b o hb
  · exact Heap.FunFrames.of_keeps (h := s.heap) (fun b o hb hn => ⟨o, by rw [up b (nT b o hb hn)]; exact hb, rfl⟩) hl
  · rw [Array.getElem?_setIfInBounds_self_of_lt l3]
theorem noteX (hfr : A.frames = some (env :: outer)) (hl : s.heap.FunFrames base (env :: outer)) (hf : env.frame = some L) (ht : s.heap.TracedW base e cls a0) (hk : base.StaysIn s.heap) (hen : base.get? e = none) (b2 : Bare2 s.heap e)
    (h : ∀ h', base.StaysIn h' → h'.FunFrames base (env :: outer) → h'.TracedAtW base e cls a0 (rawInt ↑L) → Bare2 h' e → s.heap.UpToSlots h' → Q () { s with heap := h' }) : wpAny M A (noteFrame (.ref e) env) Q E s := by
  obtain ⟨oe, vs, T, oT, ts, he, ⟨hc, h0⟩, hd, h1, hbT, hTe, hT, hdT, h3⟩ := ht
  obtain ⟨oe2, vs2, q1, q2, q3⟩ := b2
  rw [he] at q1; cases q1
  rw [hd] at q2; cases q2
  have l3 : 3 < ts.size := by
    rcases Nat.lt_or_ge 3 ts.size with z | z
    · exact z
    · rw [Array.getElem?_eq_none z] at h3; cases h3
  have l2 : 2 < vs.size := by
    rcases Nat.lt_or_ge 2 vs.size with z | z
    · exact z
    · rw [Array.getElem?_eq_none z] at q3; cases q3
  unfold noteFrame
  rw [hf]
  refine wpAny_bind (wpAny_field he hd h1 ?_)
  dsimp only
  rw [if_pos (show (Value.ref T != Value.none) = true from rfl)]
  refine wpAny_bind (wpAny_field hT hdT h3 ?_)
  rw [if_neg (show ¬ (Value.none == rawInt ↑L) = true from fun z => by cases z)]
  refine wpAny_bind (wpAny_setField hT hdT l3 ?_)
  have up : ∀ b, b ≠ T → (s.heap.update T (Obj.mapFields fun x => x.setIfInBounds 3 Value.none)).get? b = s.heap.get? b := fun b hb => Heap.get?_update_ne _ _ _ _ hb
  have nT : ∀ b o, s.heap.get? b = some o → (∀ vs, o.data ≠ .fields vs) → b ≠ T := fun b o hb hn z => by rw [z, hT] at hb; cases hb; exact hn _ hdT
  subst hc
  refine tailX (s := { s with heap := s.heap.update T (Obj.mapFields fun x => x.setIfInBounds 3 Value.none) }) hfr (Heap.FunFrames.of_keeps (h := s.heap) (fun b o hb hn => ⟨o, (up b (nT b o hb hn)).trans hb, rfl⟩) hl) hf ((up e hTe.symm).trans he)
    (fun b o hb => (up b (fun z => by rw [z, hbT] at hb; cases hb)).trans (hk b o hb)) hen hd l2 h0 q3 fun h' k1 k2 k3 k4 k5 => ?_
  exact h h' k1 k2 k3 k4 fun b o hb hn => k5 b o ((up b (nT b o hb hn)).trans hb) hn
theorem noteNewX {args : List Value} {t : Addr} (hfr : A.frames = some (env :: outer)) (hl : s.heap.FunFrames base (env :: outer)) (hf : env.frame = some L) (hk : base.StaysIn s.heap) (hen : base.get? e = none)
    (he : s.heap.get? e = some { cls := cls, data := .fields #[.ref t, .none, .none, .none, .bool false, .none] })
    (h : ∀ h', base.StaysIn h' → h'.FunFrames base (env :: outer) → h'.TracedAtW base e cls (.ref t) (rawInt ↑L) → Bare2 h' e → s.heap.UpToSlots h' → Q () { s with heap := h' }) : wpAny M A (noteFrame (.ref e) env) Q E s := by
  unfold noteFrame
  rw [hf]
  refine wpAny_bind (wpAny_field he rfl (x := .none) rfl ?_)
  dsimp only
  rw [if_neg (show ¬ (Value.none != Value.none) = true from fun z => by cases z)]
  exact tailX hfr hl hf he hk hen rfl (show 2 < 6 by decide) rfl rfl h
theorem leaves_onX (hfr : A.frames = some (env :: outer)) (hf : env.frame = some L) (fl : base.FlyingW (env :: outer) e cls a0 s.heap) (b2 : Bare2 s.heap e)
    (h : ∀ h', base.FlyingW outer e cls a0 h' → Bare2 h' e → s.heap.UpToSlots h' → Q () { s with heap := h' }) : wpAny M A (leaving env (.ref e)) Q E s := by
  obtain ⟨f1, f2, f3, f4⟩ := fl
  unfold leaving
  refine wpAny_bind (noteX hfr f3 hf f4 f1 f2 b2 fun h1 k1 k2 k3 k4 k5 => ?_)
  exact flightX k1 k2 k3 k4 fun h2 j1 j2 j3 j4 j5 => h h2 ⟨j1, f2, j2.2.2, j3⟩ j4 (k5.trans j5)
theorem leaves_madeX {h0 : Heap} {args : List Value} (hfr : A.frames = some (env :: outer)) (hf : env.frame = some L) (hk : base.StaysIn h0) (hl : h0.FunFrames base (env :: outer)) (hm : h0.MadeExcOf s.heap e cls args)
    (h : ∀ (h' : Heap) (t : Addr), base.FlyingW outer e cls (.ref t) h' → Bare2 h' e → s.heap.UpToSlots h' → Q () { s with heap := h' }) : wpAny M A (leaving env (.ref e)) Q E s := by
  obtain ⟨t, he, _, _⟩ := hm.there
  have hen : base.get? e = none := by
    cases q : base.get? e with
    | none => rfl
    | some o => have := hk e o q; rw [hm.new] at this; cases this
  unfold leaving
  refine wpAny_bind (noteNewX (args := args) hfr (Heap.FunFrames.of_keeps (h := h0) (fun b o hb _ => ⟨o, hm.keeps b o hb, rfl⟩) hl) hf (fun b o hb => hm.keeps b o (hk b o hb)) hen he fun h1 k1 k2 k3 k4 k5 => ?_)
  exact flightX k1 k2 k3 k4 fun h2 j1 j2 j3 j4 j5 => h h2 t ⟨j1, hen, j2.2.2, j3⟩ j4 (k5.trans j5)
theorem looks_onX (hfr : A.frames = some (env :: outer)) (hf : env.frame = some L) (fl : base.FlyingW (env :: outer) e cls a0 s.heap) (b2 : Bare2 s.heap e)
    (h : ∀ h', base.HeldW (env :: outer) e cls a0 L h' → Bare2 h' e → s.heap.UpToSlots h' → Q () { s with heap := h' }) : wpAny M A (noteFrame (.ref e) env) Q E s := by
  obtain ⟨f1, f2, f3, f4⟩ := fl
  exact noteX hfr f3 hf f4 f1 f2 b2 fun h1 k1 k2 k3 k4 k5 => h h1 ⟨k1, f2, k2, k3⟩ k4 k5
theorem landsX (hh : base.HeldW (env :: outer) e cls a0 L s.heap) (b2 : Bare2 s.heap e)
    (h : ∀ h', base.FlyingW (env :: outer) e cls a0 h' → Bare2 h' e → s.heap.UpToSlots h' → Q () { s with heap := h' }) : wpAny M A (setFlight (.ref e) none) Q E s := by
  obtain ⟨f1, f2, f3, f4⟩ := hh
  exact flightX f1 f3 f4 b2 fun h2 j1 j2 j3 j4 j5 => h h2 ⟨j1, f2, j2, j3⟩ j4 j5
theorem lands_againX (fl : base.FlyingW (env :: outer) e cls a0 s.heap) (b2 : Bare2 s.heap e)
    (h : ∀ h', base.FlyingW (env :: outer) e cls a0 h' → Bare2 h' e → s.heap.UpToSlots h' → Q () { s with heap := h' }) : wpAny M A (setFlight (.ref e) none) Q E s := by
  obtain ⟨f1, f2, f3, f4⟩ := fl
  exact flightX f1 f3 (Heap.TracedW.at f4) b2 fun h2 j1 j2 j3 j4 j5 => h h2 ⟨j1, f2, j2, j3⟩ j4 j5
end
end PySem

/-! A def that raises an own exception after it has made new objects. -/
namespace L2
open PySem PySem.Spec PyProof.Rows PySem.W
/-- an exception of the class C has left a def that changed nothing, new objects aside -/
def CXm (P : Program) (w : World) (C : Addr) : CXT := fun outer H s E v s' => ∃ (e : Addr) (a0 : Value) (B : Heap) (H1 : Hp), v = .ref e ∧ s'.os = s.os ∧ AllBare s'.gens ∧ Un (frs outer) [] H H1 s.heap s'.heap ∧ HOk P w H1 B ∧ Heap.FlyingW B outer e (.ref C) a0 s'.heap ∧
  (∀ b o, s.heap.get? b = some o → b ∉ frs outer → ∃ o', B.get? b = some o' ∧ (H b = none → o' = o)) ∧ Bare2 s'.heap e ∧ E (.ref C) none H1
theorem leavesM {P : Program} {w : World} {K : PySem.W.Frag} {mg : Str → Option Value} {base : Heap} {N : List Str} {qual : Str} {scope : Scope} {f C : Addr} {cd : Value} {A : Around} {outer : List Env} {s : Shared} {H H1 : Hp} {E : XK} {pins : List (Addr × Obj)} {σ : St}
    {s1 : Shared} {h' : Heap} {e : Addr} {vs : List Value} (I : Inv (cxOf (CXm P w C) P w K mg base N qual scope f cd A outer s H E) pins σ H1 s1) (hx : Heap.MadeExcOf s1.heap h' e (.ref C) vs) (hE : E (.ref C) none H1) :
    (cxOf (CXm P w C) P w K mg base N qual scope f cd A outer s H E).xe (.ref e) { s1 with heap := h' } := by
  have fsI := I.stack
  have up1 : s1.heap.StaysIn h' := hx.keeps
  refine leaves_madeX (base := hideAll s1.heap (frs (envOfC qual scope s.heap.objs.size f cd :: outer))) (h0 := s1.heap) (outer := outer) (L := s.heap.objs.size) I.ok.frames rfl (fun b o q => of_hideAll _ q)
    (funFrames_hide fsI fun env he b hb => List.mem_filterMap.mpr ⟨env, he, hb⟩) hx fun h2 t fl b2 up => ?_
  have inB : ∀ b o, s1.heap.get? b = some o → b ∉ frs (envOfC qual scope s.heap.objs.size f cd :: outer) → (hideAll s1.heap (frs (envOfC qual scope s.heap.objs.size f cd :: outer))).get? b = some o := fun b o q n => hideAll_get _ q n
  have old : ∀ b o, s.heap.get? b = some o → b ∉ frs outer → b ∉ frs (envOfC qual scope s.heap.objs.size f cd :: outer) := fun b o q n hm => by
    have z : b ∈ s.heap.objs.size :: frs outer := hm
    rcases List.mem_cons.mp z with z | z
    · exact absurd (Heap.lt_size q) (by rw [z]; exact Nat.lt_irrefl _)
    · exact n z
  have trk : ∀ b o, H1 b = some o → b ∉ frs (envOfC qual scope s.heap.objs.size f cd :: outer) := fun b o q hm => by
    have z := I.stkFree b hm
    rw [q] at z
    cases z
  have hB : HOk P w H1 (hideAll s1.heap (frs (envOfC qual scope s.heap.objs.size f cd :: outer))) := fun b o q =>
    (I.hok b o q).stay (fun c u hc g => inB c u g (by
      rcases hc with rfl | hc
      · exact trk _ _ q
      · exact trk _ _ hc)) (fun _ z => z) (fun _ _ z => z) fun _ _ _ z => z
  have there : ∀ b o, s.heap.get? b = some o → b ∉ frs outer → ∃ o', (hideAll s1.heap (frs (envOfC qual scope s.heap.objs.size f cd :: outer))).get? b = some o' ∧ (H b = none → o' = o) := fun b o q n => by
    obtain ⟨o', z⟩ := I.base.there b o q (by intro y; cases y)
    refine ⟨o', inB b o' z (old b o q n), fun hn => ?_⟩
    have y := I.base.keep b o q hn n (by intro y; cases y)
    rw [z] at y
    exact Option.some.inj y
  have slot : ∀ b o, s.heap.get? b = some o → H b = none → b ∈ frs outer → ∃ sl, h2.get? b = some { o with slots := sl } := fun b o q n hb => by
    obtain ⟨sl, z⟩ := I.base.slot b o q n hb (by intro y; cases y)
    obtain ⟨_, o2, z2, nf⟩ := I.ok.funs.mem hb
    have q' : s.heap.get? b = some o2 := z2
    rw [q] at q'
    cases q'
    obtain ⟨sl2, z3⟩ := up b _ (up1 _ _ z) nf
    exact ⟨sl2, z3⟩
  refine ⟨e, .ref t, _, H1, rfl, I.os, I.bare, ?_, hB, fl, there, b2, hE⟩
  refine ⟨fun b o q n nb _ => ?_, fun b o q n hb _ => slot b o q n hb, fun b o q n _ => I.base.free b o q n (by intro y; cases y), fun b o q _ => ?_, fun b xs z => I.base.tups b xs z, fun b ob u z => I.base.frzs b ob u z, fun b ps z => I.base.tbls b ps z⟩
  · obtain ⟨o', z, y⟩ := there b o q nb
    rw [← y n]
    exact fl.1 _ _ z
  · by_cases hb : b ∈ frs outer
    · obtain ⟨sl, z⟩ := slot b o q (I.ok.frf b hb) hb
      exact ⟨_, z⟩
    · obtain ⟨o', z, _⟩ := there b o q hb
      exact ⟨o', fl.1 _ _ z⟩
/-- a def of the text that raises an exception of the class C, where pr holds -/
structure CalM (P : Program) (w : World) (K : PySem.W.Frag) (mg : Str → Option Value) (base : Heap) (x : Str) (ps : List Str) (k : Nat) (C : Addr) (pr : List V → Hp → Prop) : Prop where
  ex : ∃ f fd, mg x = some (.ref f) ∧ PySem.W.keepIn K (.ref f) = true ∧ Binds K fd ps [] ∧ FnOk P w K mg base (CXm P w C) k f fd ps (fun vs H _ E => pr vs H ∧ ∀ H1, Same H H1 → E (.ref C) none H1)
theorem Fnd.raisesM {P : Program} {w : World} {K : PySem.W.Frag} {mg : Str → Option Value} {base : Heap} {x : Str} {st : Stmt} {N ps : List Str} {k : Nat} {C : Addr} {pr : List V → Hp → Prop} (F : Fnd K mg x st ps) (S : FnScope N ps (defScope st)) (len : ∀ vs H, pr vs H → vs.length = ps.length)
    (hbody : ∀ (f : Addr) (cdv : Value) (A : Around) (outer : List PySem.Env) (s : Shared) (H : Hp) (vs : List V) (E : XK), Room k (A.deeper (envOfC x (defScope st) s.heap.objs.size f cdv)) → pr vs H →
      ∃ t, PSs (cxOf (CXm P w C) P w K mg base N x (defScope st) f cdv A outer s H E) (defBody st) t ∧ ((∀ H1, Same H H1 → E (.ref C) none H1) → ∀ D, t D (L2.start N vs) H)) : CalM P w K mg base x ps (k + 1) C pr := by
  obtain ⟨f, fd, m, Fu, b⟩ := F.ex
  refine ⟨f, fd, m, Fu.kp, b, ?_⟩
  obtain ⟨oc, od, kV, doc, pm, an, cdv, ct, osl, rfl, lk, hcd⟩ := Fu.ex
  refine fn_of lk hcd S (fun vs H Q E h => len vs H h.1) fun A outer s H vs Q E hr hsp => ?_
  obtain ⟨t, h, q⟩ := hbody f cdv A outer s H vs E hr hsp.1
  exact ⟨t, h, q hsp.2 _⟩
section
variable {X : Cx} {pins : List (Addr × Obj)} {σ : St} {H : Hp} {s : Shared}
theorem pe_calM {x : Str} {ps : List Str} {j k : Nat} {C : Addr} {pr : List V → Hp → Prop} {E : XK} {p pos : Pos} {e : Expr} {es : List Expr} {t : TA} (c : CalM X.prog X.w X.K X.mg X.base x ps j C pr) (hr : Room k X.A) (hx : Passes (CXm X.prog X.w C) X E) (hg : Gl X x) (ha : PA X (e :: es) t) (hjk : j ≤ k := by decide)
    (hdb : (x == ("__debug__" : Str)) = false := by decide) (he : starEach (e :: es) X.env = (false, eval e X.env) :: starEach es X.env := by rfl) (hpl : (backTo pos (starEach es X.env)).any (·.1) = false := by rfl) :
    PE X (.Call (.Name x p) (e :: es) [] pos) (tCall (fun vs H _ E => pr vs H ∧ ∀ H1, Same H H1 → E (.ref C) none H1) [] E t) := by
  obtain ⟨f, fd, m, kp, b, F⟩ := c.ex
  exact pe_call F (hr.mono hjk) hg m kp b .nil hx ha hdb he hpl
/-- the state behind an exception that came out of a call, whatever its records did since -/
theorem Inv.flownM {s2 : Shared} {h B : Heap} {H1 : Hp} (I : Inv X pins σ H s) (os : s2.os = s.os) (bare : AllBare s2.gens) (un : Un (frs X.stack) [] H H1 s.heap s2.heap) (hB : HOk X.prog X.w H1 B) (st : B.StaysIn h)
    (there : ∀ b o, s.heap.get? b = some o → b ∉ frs X.stack → ∃ o', B.get? b = some o' ∧ (H b = none → o' = o)) (up : s2.heap.UpToSlots h) : Inv X pins σ H1 { s2 with heap := h } := by
  have slot : ∀ b o, s.heap.get? b = some o → H b = none → b ∈ frs X.stack → ∃ sl, h.get? b = some { o with slots := sl } := fun b o q n hb => by
    obtain ⟨sl, z⟩ := un.slot b o q n hb (by intro y; cases y)
    obtain ⟨_, o2, z2, nf⟩ := I.stack.mem hb
    rw [q] at z2
    cases z2
    obtain ⟨sl2, z3⟩ := up b _ z nf
    exact ⟨sl2, z3⟩
  refine I.call' (s' := { s2 with heap := h }) (ch := []) os ⟨fun b o q n nb _ => ?_, fun b o q n hb _ => slot b o q n hb, un.free, fun b o q _ => ?_, un.tups, un.frzs, un.tbls⟩ (hB.kept st) bare (fun b z => absurd z (by simp))
  · obtain ⟨o', z, y⟩ := there b o q nb
    rw [← y n]
    exact st _ _ z
  · by_cases hb : b ∈ frs X.stack
    · obtain ⟨sl, z⟩ := slot b o q (I.stkFree b hb) hb
      exact ⟨_, z⟩
    · obtain ⟨o', z, _⟩ := there b o q hb
      exact ⟨o', st _ _ z⟩
/-- an object that an exception without another one behind it is -/
def Bare1 (oe : Obj) : Prop := ∃ vs, oe.data = .fields vs ∧ vs[2]? = some .none
theorem ps_tryH {C D0 : Addr} {x n : Str} {np hp pos : Pos} {body suite : List Stmt} {b0 : Stmt} {tb : XK → TS} {ts : Addr → TS} {ie : Nat}
    (own : (clsIn X.K D0).isSome = true) (ty : typeIn X.K (.ref D0) = some (.type "type")) (base : subIn X.K (.ref D0) (.type "BaseException") = some true) (sub : subIn X.K (.ref C) (.ref D0) = some true)
    (hstk : X.stack = X.env :: X.outer ∧ X.env.frame = some X.env.locals) (hg : Gl X x) (hm : X.mg x = some (.ref D0)) (hN : X.N.Nodup) (hi : X.N[ie]? = some n) (hl : X.env.scope.names.lookup n = some .local)
    (hb : ∀ pn xe EK, Passes (CXm X.prog X.w C) (X.pinw pn xe) EK → PSs (X.pinw pn xe) body (tb EK))
    (hs : ∀ (e : Addr) (oe : Obj) pn, oe.cls = .ref C → Bare1 oe → PSs (X.hand e ((e, oe) :: pn)) (b0 :: suite) (ts e))
    (hd : (x == ("__debug__" : Str)) = false := by decide) :
    PS X (.Try body [.ExceptHandler (some (.Name x np)) (some n) (b0 :: suite) hp] [] [] pos) (fun D σ H => tb (xkOf C X.N.length ie D ts) D σ H) := by
  intro pins s σ H D I h
  have hlk : X.env.kindOf n = some .local := hl
  refine wpAny_Try_except ?_
  refine wpAny_mono (hb (X.pn ++ pins) (fun e s1 => wpAny (model X.prog X.w) X.A (noteFrame e X.env) (fun _ s2 => wpAny (model X.prog X.w) X.A (setFlight e none) (fun _ s3 => wpAny (model X.prog X.w) X.A (handleBy e X.env [.ExceptHandler (some (.Name x np)) (some n) (b0 :: suite) hp]) (SP X pins D) X.xe s3) X.xe s2) X.xe s1) (xkOf C X.N.length ie D ts) ?_ [] s σ H D (I.pinw _) h) (fun f s1 q => ?_) (fun e s1 z => z)
  case refine_2 =>
    have back : ∀ {σ' H'}, Inv (X.pinw (X.pn ++ pins) (fun e s1 => wpAny (model X.prog X.w) X.A (noteFrame e X.env) (fun _ s2 => wpAny (model X.prog X.w) X.A (setFlight e none) (fun _ s3 => wpAny (model X.prog X.w) X.A (handleBy e X.env [.ExceptHandler (some (.Name x np)) (some n) (b0 :: suite) hp]) (SP X pins D) X.xe s3) X.xe s2) X.xe s1)) [] σ' H' s1 → Inv X pins σ' H' s1 :=
      fun J => ⟨I.ok, J.os, J.bare, J.base, J.loc, J.cell, J.free, J.freeC, fun p hp => J.pin p (by simpa using hp), J.hok, J.len⟩
    cases f with
    | next => obtain ⟨σ', H', J, q⟩ := q; exact wpAny_execs_nil ⟨σ', H', back J, q⟩
    | brk => obtain ⟨σ', H', J, q⟩ := q; exact ⟨σ', H', back J, q⟩
    | cont => obtain ⟨σ', H', J, q⟩ := q; exact ⟨σ', H', back J, q⟩
    | ret u => obtain ⟨v, σ', H', J, r, q⟩ := q; exact ⟨v, σ', H', back J, r, q⟩
  intro pins' σ1 H0 s1 v s2 J hx
  obtain ⟨e, a0, B, H1, rfl, os, bare, un, hB, fl, there, b2, hE1, hE⟩ := hx
  have J0 : Inv X (pins' ++ pins) σ1 H0 s1 := ⟨I.ok, J.os, J.bare, J.base, J.loc, J.cell, J.free, J.freeC, fun p hp => J.pin p (by
    simp only [List.mem_append] at hp ⊢
    rcases hp with z | z | z
    · exact .inl (.inl z)
    · exact .inr z
    · exact .inl (.inr z)), J.hok, J.len⟩
  have fl' : Heap.FlyingW B (X.env :: X.outer) e (.ref C) a0 s2.heap := by rw [← hstk.1]; exact fl
  refine looks_onX (by rw [← hstk.1]; exact I.ok.frames) hstk.2 fl' b2 fun h3 held b3 up3 => ?_
  refine landsX held b3 fun h4 fl4 b4 up4 => ?_
  have J4 : Inv X (pins' ++ pins) σ1 H1 { s2 with heap := h4 } := J0.flownM os bare un hB fl4.1 there (up3.trans up4)
  have K4 : X.K.In h4 := J4.kIn
  obtain ⟨ob, hob, hobc⟩ := fl4.there
  have M4 : Inv (X.hand e []) [] σ1 H1 { s2 with heap := h4 } := ⟨I.ok.hand _ _, J4.os, J4.bare, J4.base, J4.loc, J4.cell, J4.free, J4.freeC, fun p hp => absurd (show p ∈ ([] : List (Addr × Obj)) from hp) (by simp), J4.hok, J4.len⟩
  refine wpAny_handleBy_cons (codeAny_handlers_test (ld_glob (X := X.hand e []) M4 hg hm (exc_match K4 hob hobc own ty base sub ?_) hd)) (by intro q; cases q)
  refine codeAny_handlers_suite_as (lands_againX fl4 b4 fun h6 fl6 b6 up6 => ?_)
  have J6 : Inv X (pins' ++ pins) σ1 H1 { s2 with heap := h6 } := J0.flownM os bare un hB fl6.1 there ((up3.trans up4).trans up6)
  obtain ⟨oe, vs, T, oT, ts', hoe, ⟨hoec, _⟩, hdat, _⟩ := id fl6.2.2.2
  have bo : Bare1 oe := by
    obtain ⟨oe2, vs2, q1, q2, q3⟩ := b6
    have q1 : h6.get? e = some oe2 := q1
    rw [hoe] at q1; cases q1
    exact ⟨vs2, q2, q3⟩
  have hne : H1 e = none := by
    cases q : H1 e with
    | none => rfl
    | some o =>
      obtain ⟨ob, z⟩ := objOk_there (hB e o q)
      rw [fl6.2.1] at z; cases z
  have hfr : e ∉ frs X.stack := fun hb => by
    rw [hstk.1] at hb
    obtain ⟨_, o, z, nf⟩ := fl6.2.2.1.mem hb
    have z : h6.get? e = some o := z
    rw [hoe] at z; cases z
    exact nf _ hdat
  have hL : e ≠ X.env.locals := fun z => hfr (by rw [hstk.1, z]; exact List.mem_filterMap.mpr ⟨X.env, List.mem_cons_self, hstk.2⟩)
  have hfs : e ∉ X.fs := fun z => hfr (by
    rw [hstk.1]
    obtain ⟨env, h1, h2⟩ := List.mem_filterMap.mp z
    exact List.mem_filterMap.mpr ⟨env, List.mem_cons_of_mem _ h1, h2⟩)
  have Mh : Inv (X.hand e ((e, oe) :: (X.pn ++ pins))) [] σ1 H1 { s2 with heap := h6 } := by
    refine ⟨I.ok.hand _ _, J6.os, J6.bare, J6.base, J6.loc, J6.cell, J6.free, J6.freeC, fun p hp => ?_, J6.hok, J6.len⟩
    have hp : p ∈ (e, oe) :: (X.pn ++ pins) := by simpa using hp
    rcases List.mem_cons.mp hp with rfl | hp
    · exact ⟨hoe, hne, hL, hfs, fun v z => by rw [hdat] at z; cases z⟩
    · refine J6.pin p ?_
      rcases List.mem_append.mp hp with z | z
      · exact List.mem_append_left _ z
      · exact List.mem_append_right _ (List.mem_append_right _ z)
  refine store_ok (X := X.hand e ((e, oe) :: (X.pn ++ pins))) Mh hN hi (.inl hl) (v := .ref e) rfl (fun s7 I7 => ?_) (.inr hl)
  have ilt : ie < σ1.length := by rw [J6.len]; exact (List.getElem?_eq_some_iff.mp hi).1
  have q7 := hE e (σ1.set ie (some (.ref e))) hne (by rw [List.length_set]; exact J6.len) (List.getElem?_set_self ilt)
  refine wpAny_mono (hs e oe (X.pn ++ pins) hoec bo [] s7 _ H1 _ I7 q7) (fun f s8 q8 => ?_) (fun _ _ z => z.elim)
  cases f with
  | next => obtain ⟨_, _, _, z⟩ := q8; exact z.elim
  | brk => obtain ⟨_, _, _, z⟩ := q8; exact z.elim
  | cont => obtain ⟨_, _, _, z⟩ := q8; exact z.elim
  | ret u =>
    obtain ⟨v, σ8, H8, I8, r8, z8⟩ := q8
    have I8' : Inv X pins σ8 H8 s8 := ⟨I.ok, I8.os, I8.bare, I8.base, I8.loc, I8.cell, I8.free, I8.freeC, fun p hp => I8.pin p (List.mem_append_left _ (List.mem_cons_of_mem _ hp)), I8.hok, I8.len⟩
    obtain ⟨m8, hn8, _⟩ := id I8'.loc
    refine wpAny_nameGoes hlk hn8 (by rw [I.ok.kind]; rfl) fun h9 m9 hn9 hs9 => ?_
    exact ⟨v, _, H8, I8'.names hn9 hs9, r8, z8⟩
end
end L2

namespace Cut
open PySem
open PySem.Builtin.Int (intBits)
theorem bits_om {x : Int} (h1 : -(2 ^ 64) < x) (h2 : x < 2 ^ 64) : intBits x ≤ 64 := intBits_le_64 h1 h2
theorem bits_of_abs {x t : Int} {n : Nat} (h : x.natAbs ≤ t.natAbs) (ht : intBits t ≤ n) : intBits x ≤ n := intBits_le_of_natAbs h ht
/-- lowest terms, the bottom from 1 on -/
def Low (x y : Int) : Prop := 0 < y ∧ Int.gcd x y = 1
theorem great_step {n d : Int} {k : Nat} (h0 : 0 ≤ n) (h : n < 10 ^ k) (d0 : 0 ≤ d) (d1 : d < 10000000) : 0 ≤ n * 10 ^ 7 + d ∧ n * 10 ^ 7 + d < 10 ^ (k + 7) := by
  have e : (10 : Int) ^ (k + 7) = 10 ^ k * 10000000 := by rw [Int.pow_add]; rfl
  have e7 : (10 : Int) ^ 7 = 10000000 := rfl
  rw [e, e7]
  omega
theorem gcd_step {x y : Int} (hx : 0 ≤ x) (hy : 0 < y) : Int.gcd y (x % y) = Int.gcd x y := by
  obtain ⟨m, rfl⟩ := Int.eq_ofNat_of_zero_le hx
  obtain ⟨n, rfl⟩ := Int.eq_ofNat_of_zero_le (Int.le_of_lt hy)
  have e : ((m : Int) % (n : Int)) = ((m % n : Nat) : Int) := rfl
  rw [e]
  show Nat.gcd n (m % n) = Nat.gcd m n
  rw [Nat.gcd_comm m n, Nat.gcd_rec n m, Nat.gcd_comm]
theorem gcd_abs (a b : Int) : Int.gcd (if a < 0 then -a else a) (if b < 0 then -b else b) = Int.gcd a b := by
  have e : ∀ z : Int, (if z < 0 then -z else z).natAbs = z.natAbs := fun z => by split <;> omega
  unfold Int.gcd
  rw [e, e]
theorem gcd_zero_left {x : Int} (h : 0 ≤ x) : ((Int.gcd x 0 : Nat) : Int) = x := by
  rw [Int.gcd_zero_right]; omega
theorem gcd_pos {t b : Int} (hb : b ≠ 0) : 0 < ((Int.gcd t b : Nat) : Int) := by
  have : 0 < Int.gcd t b := Int.gcd_pos_of_ne_zero_right t hb
  omega
/-- exact division by the common divisor, the sign of the bottom carried -/
theorem low_of {t b g s : Int} (hb : b ≠ 0) (hg : g = (Int.gcd t b : Nat)) (hs : s = g ∧ 0 < b ∨ s = -g ∧ b < 0) :
    Low (t.fdiv s) (b.fdiv s) ∧ t.fdiv s * b = t * b.fdiv s ∧ (t.fdiv s).natAbs ≤ t.natAbs ∧ (b.fdiv s).natAbs ≤ b.natAbs := by
  have gp : 0 < g := by rw [hg]; exact gcd_pos hb
  have d1 : g ∣ t := by rw [hg]; exact Int.gcd_dvd_left t b
  have d2 : g ∣ b := by rw [hg]; exact Int.gcd_dvd_right t b
  have s1 : s ∣ t := by rcases hs with ⟨h, _⟩ | ⟨h, _⟩ <;> rw [h]; exact d1; exact Int.neg_dvd.mpr d1
  have s2 : s ∣ b := by rcases hs with ⟨h, _⟩ | ⟨h, _⟩ <;> rw [h]; exact d2; exact Int.neg_dvd.mpr d2
  have s0 : s ≠ 0 := by rcases hs with ⟨h, _⟩ | ⟨h, _⟩ <;> omega
  obtain ⟨x, hx⟩ := s1
  obtain ⟨y, hy⟩ := s2
  have ex : t.fdiv s = x := by rw [hx]; exact Int.mul_fdiv_cancel_left x s0
  have ey : b.fdiv s = y := by rw [hy]; exact Int.mul_fdiv_cancel_left y s0
  have e1 : (t.fdiv s).natAbs ≤ t.natAbs := natAbs_fdiv_le t s
  have e2 : (b.fdiv s).natAbs ≤ b.natAbs := natAbs_fdiv_le b s
  refine ⟨⟨?_, ?_⟩, ?_, e1, e2⟩
  · rw [ey]
    rcases hs with ⟨h, hp⟩ | ⟨h, hp⟩
    · rw [hy, h] at hp
      exact Int.pos_of_mul_pos_right hp gp
    · rw [hy, h] at hp
      have : 0 < g * y := by rw [Int.neg_mul] at hp; omega
      exact Int.pos_of_mul_pos_right this gp
  · rw [ex, ey]
    have q : Int.gcd t b = s.natAbs * Int.gcd x y := by
      rw [hx, hy, Int.gcd_mul_left]
    have sn : s.natAbs = g.toNat := by rcases hs with ⟨h, _⟩ | ⟨h, _⟩ <;> omega
    have gn : g.toNat = Int.gcd t b := by omega
    rw [sn, gn] at q
    have pos : 0 < Int.gcd t b := Int.gcd_pos_of_ne_zero_right t hb
    have : Int.gcd t b * Int.gcd x y = Int.gcd t b * 1 := by omega
    exact Nat.eq_of_mul_eq_mul_left pos this
  · rw [ex, ey]
    have : x * b = x * (s * y) := by rw [← hy]
    have h2 : t * y = s * x * y := by rw [← hx]
    rw [this, h2, ← Int.mul_assoc, Int.mul_comm x s]
theorem dvd_co {k n m : Int} (h : k ∣ n * m) (g : Int.gcd k n = 1) : k ∣ m := by
  have q := Int.dvd_gcd_mul_iff_dvd_mul.mpr h
  rw [g] at q
  simpa using q
/-- one ratio in lowest terms has one form -/
theorem low_uniq {x y x' y' : Int} (h : Low x y) (h' : Low x' y') (e : x * y' = x' * y) : x = x' ∧ y = y' := by
  obtain ⟨p, g⟩ := h
  obtain ⟨p', g'⟩ := h'
  have d1 : y ∣ y' := by
    have : y ∣ x * y' := ⟨x', by rw [e, Int.mul_comm]⟩
    exact dvd_co this (by rw [Int.gcd_comm]; exact g)
  have d2 : y' ∣ y := by
    have : y' ∣ x' * y := ⟨x, by rw [← e, Int.mul_comm]⟩
    exact dvd_co this (by rw [Int.gcd_comm]; exact g')
  have ey : y = y' := Int.dvd_antisymm (Int.le_of_lt p) (Int.le_of_lt p') d1 d2
  refine ⟨?_, ey⟩
  rw [ey] at e
  exact Int.eq_of_mul_eq_mul_right (by omega) e
end Cut
namespace Cut
end Cut
namespace Cut
/-- a point in lowest form -/
def Pt (x y z : Int) : Prop := 0 < z ∧ Int.gcd (Int.gcd x y : Nat) z = 1
theorem gcd3 (a b n : Int) : Int.gcd (Int.gcd a n : Nat) b = Nat.gcd (Nat.gcd a.natAbs b.natAbs) n.natAbs := by
  show Nat.gcd (Nat.gcd a.natAbs n.natAbs) b.natAbs = _
  rw [Nat.gcd_assoc, Nat.gcd_comm n.natAbs, ← Nat.gcd_assoc]
theorem gcd3' (a b n : Int) : Int.gcd (Int.gcd a b : Nat) n = Nat.gcd (Nat.gcd a.natAbs b.natAbs) n.natAbs := rfl
theorem gcd3_pos {a b n : Int} (hn : n ≠ 0) : 0 < ((Int.gcd (Int.gcd a n : Nat) b : Nat) : Int) := by
  rw [gcd3]
  have : 0 < Nat.gcd (Nat.gcd a.natAbs b.natAbs) n.natAbs := Nat.gcd_pos_of_pos_right _ (by omega)
  omega
theorem gcd3_dvd (a b n : Int) : ((Int.gcd (Int.gcd a n : Nat) b : Nat) : Int) ∣ a ∧ ((Int.gcd (Int.gcd a n : Nat) b : Nat) : Int) ∣ b ∧ ((Int.gcd (Int.gcd a n : Nat) b : Nat) : Int) ∣ n := by
  rw [gcd3]
  have h1 := Nat.gcd_dvd_left (Nat.gcd a.natAbs b.natAbs) n.natAbs
  have h2 := Nat.gcd_dvd_right (Nat.gcd a.natAbs b.natAbs) n.natAbs
  refine ⟨?_, ?_, ?_⟩
  · exact Int.ofNat_dvd_left.mpr (Nat.dvd_trans h1 (Nat.gcd_dvd_left _ _))
  · exact Int.ofNat_dvd_left.mpr (Nat.dvd_trans h1 (Nat.gcd_dvd_right _ _))
  · exact Int.ofNat_dvd_left.mpr h2
theorem pt_of {a b n g s : Int} (hn : n ≠ 0) (hg : g = (Int.gcd (Int.gcd a n : Nat) b : Nat)) (hs : s = g ∧ 0 < n ∨ s = -g ∧ n < 0) :
    Pt (a.fdiv s) (b.fdiv s) (n.fdiv s) ∧ a.fdiv s * n = a * n.fdiv s ∧ b.fdiv s * n = b * n.fdiv s ∧ (a.fdiv s).natAbs ≤ a.natAbs ∧ (b.fdiv s).natAbs ≤ b.natAbs ∧ (n.fdiv s).natAbs ≤ n.natAbs := by
  have gp : 0 < g := by rw [hg]; exact gcd3_pos hn
  obtain ⟨d1, d2, d3⟩ := gcd3_dvd a b n
  rw [← hg] at d1 d2 d3
  have s0 : s ≠ 0 := by rcases hs with ⟨h, _⟩ | ⟨h, _⟩ <;> omega
  have dv : ∀ z : Int, g ∣ z → s ∣ z := fun z hz => by
    rcases hs with ⟨h, _⟩ | ⟨h, _⟩ <;> rw [h]
    · exact hz
    · exact Int.neg_dvd.mpr hz
  obtain ⟨x, hx⟩ := dv a d1
  obtain ⟨y, hy⟩ := dv b d2
  obtain ⟨z, hz⟩ := dv n d3
  have ex : a.fdiv s = x := by rw [hx]; exact Int.mul_fdiv_cancel_left x s0
  have ey : b.fdiv s = y := by rw [hy]; exact Int.mul_fdiv_cancel_left y s0
  have ez : n.fdiv s = z := by rw [hz]; exact Int.mul_fdiv_cancel_left z s0
  refine ⟨⟨?_, ?_⟩, ?_, ?_, PySem.natAbs_fdiv_le a s, PySem.natAbs_fdiv_le b s, PySem.natAbs_fdiv_le n s⟩
  · rw [ez]
    rcases hs with ⟨h, hp⟩ | ⟨h, hp⟩
    · rw [hz, h] at hp
      exact Int.pos_of_mul_pos_right hp gp
    · rw [hz, h] at hp
      have : 0 < g * z := by rw [Int.neg_mul] at hp; omega
      exact Int.pos_of_mul_pos_right this gp
  · rw [ex, ey, ez, gcd3']
    rw [gcd3, hx, hy, hz, Int.natAbs_mul, Int.natAbs_mul, Int.natAbs_mul, Nat.gcd_mul_left, Nat.gcd_mul_left] at hg
    have sn : s.natAbs = g.toNat := by rcases hs with ⟨h, _⟩ | ⟨h, _⟩ <;> omega
    have pos : 0 < s.natAbs := by omega
    have q : s.natAbs * Nat.gcd (Nat.gcd x.natAbs y.natAbs) z.natAbs = s.natAbs * 1 := by omega
    exact Nat.eq_of_mul_eq_mul_left pos q
  · rw [ex, ez]
    have h1 : x * n = x * (s * z) := by rw [← hz]
    have h2 : a * z = s * x * z := by rw [← hx]
    rw [h1, h2, ← Int.mul_assoc, Int.mul_comm x s]
  · rw [ey, ez]
    have h1 : y * n = y * (s * z) := by rw [← hz]
    have h2 : b * z = s * y * z := by rw [← hy]
    rw [h1, h2, ← Int.mul_assoc, Int.mul_comm y s]
theorem pt_dvd {x y z x' y' z' : Int} (g : Int.gcd (Int.gcd x y : Nat) z = 1) (e1 : x * z' = x' * z) (e2 : y * z' = y' * z) : z ∣ z' := by
  have d1 : z.natAbs ∣ x.natAbs * z'.natAbs := ⟨x'.natAbs, by rw [← Int.natAbs_mul, e1, Int.natAbs_mul, Nat.mul_comm]⟩
  have d2 : z.natAbs ∣ y.natAbs * z'.natAbs := ⟨y'.natAbs, by rw [← Int.natAbs_mul, e2, Int.natAbs_mul, Nat.mul_comm]⟩
  have d3 : z.natAbs ∣ z.natAbs * z'.natAbs := ⟨z'.natAbs, rfl⟩
  have q := Nat.dvd_gcd (Nat.dvd_gcd d1 d2) d3
  rw [Nat.gcd_mul_right, Nat.gcd_mul_right] at q
  rw [gcd3'] at g
  rw [g, Nat.one_mul] at q
  exact Int.natAbs_dvd_natAbs.mp q
theorem pt_uniq {x y z x' y' z' : Int} (h : Pt x y z) (h' : Pt x' y' z') (e1 : x * z' = x' * z) (e2 : y * z' = y' * z) : x = x' ∧ y = y' ∧ z = z' := by
  have d1 := pt_dvd h.2 e1 e2
  have d2 := pt_dvd h'.2 e1.symm e2.symm
  have ez : z = z' := Int.dvd_antisymm (Int.le_of_lt h.1) (Int.le_of_lt h'.1) d1 d2
  subst ez
  have nz : z ≠ 0 := Int.ne_of_gt h.1
  exact ⟨Int.eq_of_mul_eq_mul_right nz e1, Int.eq_of_mul_eq_mul_right nz e2, rfl⟩
theorem gcd3_bits {a b n : Int} {k : Nat} (hn : n ≠ 0) (h : PySem.Builtin.Int.intBits n ≤ k) : PySem.Builtin.Int.intBits ((Int.gcd (Int.gcd a n : Nat) b : Nat) : Int) ≤ k := by
  refine PySem.intBits_le_of_natAbs ?_ h
  exact Nat.le_of_dvd (by omega) (Int.natAbs_dvd_natAbs.mpr (gcd3_dvd a b n).2.2)
end Cut
namespace Cut
end Cut

/-! TREES: values without addresses. What a slot holds: a tree that stays (val), a list of one's own that may grow (own), the drawing bag. -/
namespace L3
open PySem L2
open PySem.Builtin.Int (intBits)
inductive D where
  | non | bl (b : Bool) | int (i : Int) | str (x : Str) | ty (n : String) | tup (xs : List D) | lst (xs : List D) | scr (ns : List Int) | ktup (xs : List D) | kfn (f : Addr) | dct (b : Bool) (ks : List (List (List Int))) (ds : List D)
/-- what one's own thing holds: a list's items; a dict's keys (tuples of ints, or tuples of such tuples) and values -/
inductive Cn where
  | l (ds : List D) | d (b : Bool) (t : Option Addr) (ks : List (List (List Int))) (ds : List D)
instance : Coe (List D) Cn := ⟨Cn.l⟩
/-- lists of one's own within a list, or as the values of a dict, of one's own; with where they stand -/
inductive Dp where
  | ll (a : Addr) (as : List Addr) (dss : List (List D)) | dl (b : Bool) (a : Addr) (ks : List (List (List Int))) (as : List Addr) (dss : List (List D)) | nl (a : Addr) (ds : List D)
def Dp.adr : Dp → Addr
  | .ll a _ _ => a
  | .dl _ a _ _ _ => a
  | .nl a _ => a
def Dp.ins : Dp → List Addr
  | .ll _ as _ => as
  | .dl _ _ _ as _ => as
  | .nl _ _ => []
def Dp.dss : Dp → List (List D)
  | .ll _ _ x => x
  | .dl _ _ _ _ x => x
  | .nl _ _ => []
inductive Sl where
  | no | val (d : D) | own (c : Cn) | bag | new (d : D) | pin (v : V) (d : D) | deep (c : Dp)
/-- the hash of a key of a dict -/
def hashK (b : Bool) (k : List (List Int)) : Int :=
  if b then reduceHash (Builtin.Tuple.tupleHashOf (k.map fun ks => reduceHash (Builtin.Tuple.tupleHashOf (ks.map hashInt)))) else reduceHash (Builtin.Tuple.tupleHashOf ((k.headD []).map hashInt))
def keyD (b : Bool) (k : List (List Int)) : D := if b then .tup (k.map fun ks => .tup (ks.map D.int)) else .tup ((k.headD []).map D.int)
def entK (b : Bool) : List (List (List Int)) → List Addr → List Value → List DictEntry
  | k :: ks, a :: as, u :: us => ⟨hashK b k, .ref a, u⟩ :: entK b ks as us
  | _, _, _ => []
/-- a dict by its one object: keys, where they stand, values -/
def DicO (b : Bool) (a : Addr) (ep : Nat) (ks : List (List (List Int))) (as : List Addr) (vs : List V) : HO := .ext fun h => ks.length ≤ sizeLine ∧ as.length = ks.length ∧ vs.length = ks.length ∧ (a == sysModules) = false ∧
  ∃ us : List Value, Vals vs us ∧ ∃ o es, h.get? a = some o ∧ o.ExactDict ∧ o.data = .dict es ep ∧ es.toList = entK b ks as us ∧ ks.Nodup
mutual
inductive Rep (K : PySem.W.Frag) (B : Hp) : V → D → Prop where
  | non : Rep K B .non .non
  | bl (b : Bool) : Rep K B (.bl b) (.bl b)
  | int (i : Int) : Rep K B (.int i) (.int i)
  | str (x : Str) : Rep K B (.str x) (.str x)
  | ty (n : String) : Rep K B (.ty n) (.ty n)
  | tup {a : Addr} {vs : List V} {ds : List D} (h : B a = some (.tup vs)) (r : Reps K B vs ds) : Rep K B (.ref a) (.tup ds)
  | lst {a : Addr} {vs : List V} {ds : List D} (h : B a = some (.lst vs)) (r : Reps K B vs ds) : Rep K B (.ref a) (.lst ds)
  | scr {a : Addr} {ns : List Int} (h : SqL K B a (ns.map V.int)) : Rep K B (.ref a) (.scr ns)
  | ktup {a : Addr} {vs : List V} {ds : List D} (h : SqT K B a vs) (r : Reps K B vs ds) : Rep K B (.ref a) (.ktup ds)
  | kfn (f : Addr) : Rep K B (.ref f) (.kfn f)
  | dct {a : Addr} {b : Bool} {ep : Nat} {ks : List (List (List Int))} {as : List Addr} {vs : List V} {ds : List D} (h : B a = some (DicO b a ep ks as vs)) (hk : Reps K B (as.map V.ref) (ks.map (keyD b))) (hb : b = false → ∀ k ∈ ks, ∃ l, k = [l]) (r : Reps K B vs ds) : Rep K B (.ref a) (.dct b ks ds)
inductive Reps (K : PySem.W.Frag) (B : Hp) : List V → List D → Prop where
  | nil : Reps K B [] []
  | cons {v : V} {d : D} {vs : List V} {ds : List D} (h : Rep K B v d) (r : Reps K B vs ds) : Reps K B (v :: vs) (d :: ds)
end
theorem sameT {K : PySem.W.Frag} {H H' : Hp} {a : Addr} {xs : List V} (e : Same H H') (h : SqT K H a xs) : SqT K H' a xs := by
  rcases h with (h | ⟨o, h⟩) | h
  · exact .inl (.inl (e _ _ h))
  · exact .inl (.inr ⟨o, e _ _ h⟩)
  · exact .inr h
section
variable {K : PySem.W.Frag} {B B' : Hp}
mutual
theorem Rep.mono (s : Same B B') : ∀ {v : V} {d : D}, Rep K B v d → Rep K B' v d
  | _, _, .non => .non
  | _, _, .bl b => .bl b
  | _, _, .int i => .int i
  | _, _, .str x => .str x
  | _, _, .ty n => .ty n
  | _, _, .tup h r => .tup (s _ _ h) (Reps.mono s r)
  | _, _, .lst h r => .lst (s _ _ h) (Reps.mono s r)
  | _, _, .scr h => .scr (s.seq h)
  | _, _, .ktup h r => .ktup (sameT s h) (Reps.mono s r)
  | _, _, .kfn f => .kfn f
  | _, _, .dct h hk hb r => .dct (s _ _ h) (Reps.mono s hk) hb (Reps.mono s r)
theorem Reps.mono (s : Same B B') : ∀ {vs : List V} {ds : List D}, Reps K B vs ds → Reps K B' vs ds
  | _, _, .nil => .nil
  | _, _, .cons h r => .cons (Rep.mono s h) (Reps.mono s r)
end
theorem Reps.length : ∀ {vs : List V} {ds : List D}, Reps K B vs ds → vs.length = ds.length
  | _, _, .nil => rfl
  | _, _, .cons _ r => by rw [List.length_cons, List.length_cons, r.length]
theorem Reps.get : ∀ {vs : List V} {ds : List D} {i : Nat} {d : D}, Reps K B vs ds → ds[i]? = some d → ∃ v, vs[i]? = some v ∧ Rep K B v d
  | _, _, _, _, .nil, e => by simp at e
  | _, _, 0, _, .cons h _, e => by simp at e; subst e; exact ⟨_, rfl, h⟩
  | _, _, i + 1, d, .cons _ r, e => by
    obtain ⟨v, h1, h2⟩ := Reps.get (i := i) (d := d) r (by simpa using e)
    exact ⟨v, by simpa using h1, h2⟩
theorem Reps.getV : ∀ {vs : List V} {ds : List D} {i : Nat} {v : V}, Reps K B vs ds → vs[i]? = some v → ∃ d, ds[i]? = some d ∧ Rep K B v d
  | _, _, _, _, .nil, e => by simp at e
  | _, _, 0, _, .cons h _, e => by simp at e; subst e; exact ⟨_, rfl, h⟩
  | _, _, i + 1, v, .cons _ r, e => by
    obtain ⟨d, h1, h2⟩ := Reps.getV (i := i) (v := v) r (by simpa using e)
    exact ⟨d, by simpa using h1, h2⟩
theorem Reps.append : ∀ {vs ws : List V} {ds es : List D}, Reps K B vs ds → Reps K B ws es → Reps K B (vs ++ ws) (ds ++ es)
  | _, _, _, _, .nil, s => s
  | _, _, _, _, .cons h r, s => .cons h (Reps.append r s)
theorem Reps.take : ∀ {vs : List V} {ds : List D} (n : Nat), Reps K B vs ds → Reps K B (vs.take n) (ds.take n)
  | _, _, 0, _ => .nil
  | _, _, _ + 1, .nil => .nil
  | _, _, n + 1, .cons h r => .cons h (Reps.take n r)
theorem Reps.drop : ∀ {vs : List V} {ds : List D} (n : Nat), Reps K B vs ds → Reps K B (vs.drop n) (ds.drop n)
  | _, _, 0, r => r
  | _, _, _ + 1, .nil => .nil
  | _, _, n + 1, .cons _ r => Reps.drop n r
theorem Reps.set {v : V} {d : D} (h : Rep K B v d) : ∀ {vs : List V} {ds : List D} (i : Nat), Reps K B vs ds → Reps K B (vs.set i v) (ds.set i d)
  | _, _, _, .nil => .nil
  | _, _, 0, .cons _ t => .cons h t
  | _, _, i + 1, .cons q t => .cons q (Reps.set h i t)
theorem Reps.ints : ∀ (ns : List Int), Reps K B (ns.map V.int) (ns.map D.int)
  | [] => .nil
  | n :: r => .cons (.int n) (Reps.ints r)
end
/-- the drawing bag: two ints, the second below the modulus -/
def Bag (H : Hp) (b : Addr) : Prop := ∃ x y : Int, H b = some (.lst [.int x, .int y]) ∧ 0 ≤ x ∧ 0 ≤ y ∧ y < 2147483647
def MutAt (σ : St) (ρ : List Sl) (i : Nat) (a : Addr) : Prop := (σ[i]? = some (some (.ref a)) ∧ (ρ[i]? = some .bag ∨ ∃ ds, ρ[i]? = some (.own ds))) ∨ ∃ c, ρ[i]? = some (.deep c) ∧ a ∈ c.adr :: c.ins
/-- R: the heap at the entry; W: what the call may change of it (bags); B: what stays; H: now -/
structure Wd (R : Hp) (W : Addr → Prop) (B H : Hp) : Prop where
  fr : ∀ a o, R a = some o → ¬ W a → H a = some o
  bh : Same B H
  wb : ∀ a, W a → B a = none
  wh : ∀ a, W a → Bag H a
  wr : ∀ a, W a → R a ≠ none
open Classical in
/-- what stays, and the lists that were there at the entry and are no bags -/
noncomputable def mixB (R : Hp) (W : Addr → Prop) (B : Hp) : Hp := fun a => match R a with
  | some (.lst vs) => if W a then B a else some (.lst vs)
  | _ => B a
theorem mixB_mono {R : Hp} {W : Addr → Prop} {B B' : Hp} (s : Same B B') : Same (mixB R W B) (mixB R W B') := fun a o h => by
  unfold mixB at h ⊢
  split at h
  · split at h
    · rename_i z; rw [if_pos z]; exact s a o h
    · rename_i z; rw [if_neg z]; exact h
  · exact s a o h
def CnOk (K : PySem.W.Frag) (B H : Hp) (a : Addr) : Cn → Prop
  | .l ds => ∃ vs, H a = some (.lst vs) ∧ Reps K B vs ds
  | .d b t ks ds => ∃ ep as vs, (∀ c, t = some c → c = a) ∧ H a = some (DicO b a ep ks as vs) ∧ Reps K B (as.map V.ref) (ks.map (keyD b)) ∧ (b = false → ∀ k ∈ ks, ∃ l, k = [l]) ∧ Reps K B vs ds
theorem CnOk.mono {K : PySem.W.Frag} {B B' H H' : Hp} {a : Addr} {c : Cn} (h : CnOk K B H a c) (s : Same B B') (e : H' a = H a) : CnOk K B' H' a c := by
  cases c with
  | l ds => obtain ⟨vs, h1, h2⟩ := h; exact ⟨vs, by rw [e]; exact h1, h2.mono s⟩
  | d b t ks ds => obtain ⟨ep, as, vs, h0, h1, h2, h3, h4⟩ := h; exact ⟨ep, as, vs, h0, by rw [e]; exact h1, h2.mono s, h3, h4.mono s⟩
theorem CnOk.ne {K : PySem.W.Frag} {B H : Hp} {a : Addr} {c : Cn} (h : CnOk K B H a c) : H a ≠ none := by
  cases c with
  | l ds => obtain ⟨vs, h1, h2⟩ := h; rw [h1]; simp
  | d b t ks ds => obtain ⟨ep, as, vs, _, h1, _⟩ := h; rw [h1]; simp
/-- lists of one's own, where they stand -/
structure InOk (K : PySem.W.Frag) (B H : Hp) (as : List Addr) (dss : List (List D)) : Prop where
  len : as.length = dss.length
  at_ : ∀ (i : Nat) (a : Addr) (ds : List D), as[i]? = some a → dss[i]? = some ds → ∃ vs, H a = some (.lst vs) ∧ Reps K B vs ds
theorem InOk.mono {K : PySem.W.Frag} {B B' H H' : Hp} {as : List Addr} {dss : List (List D)} (h : InOk K B H as dss) (s : Same B B') (e : ∀ a ∈ as, H' a = H a) : InOk K B' H' as dss :=
  ⟨h.len, fun i a ds h1 h2 => by
    obtain ⟨vs, q1, q2⟩ := h.at_ i a ds h1 h2
    exact ⟨vs, by rw [e a (List.mem_of_getElem? h1)]; exact q1, q2.mono s⟩⟩
theorem InOk.ne {K : PySem.W.Frag} {B H : Hp} {as : List Addr} {dss : List (List D)} (h : InOk K B H as dss) {a : Addr} (m : a ∈ as) : H a ≠ none := by
  obtain ⟨i, hi⟩ := List.getElem?_of_mem m
  have lt : i < as.length := by
    by_cases z : i < as.length
    · exact z
    · rw [List.getElem?_eq_none (by omega)] at hi; cases hi
  obtain ⟨vs, q1, _⟩ := h.at_ i a _ hi (List.getElem?_eq_getElem (by rw [← h.len]; exact lt))
  rw [q1]; simp
/-- of what stays: without the lists that were there at the entry -/
def newL (R B : Hp) : Hp := fun a => match B a with
  | some (.lst vs) => if (R a).isNone then some (.lst vs) else none
  | o => o
theorem newL_sub {R B : Hp} : Same (newL R B) B := fun a o h => by
  unfold newL at h
  split at h
  · rename_i vs e
    split at h
    · rw [e]; exact h
    · cases h
  · exact h
theorem newL_mono {R B B' : Hp} (s : Same B B') : Same (newL R B) (newL R B') := fun a o h => by
  have hB := s a o (newL_sub a o h)
  unfold newL at h ⊢
  rw [hB]
  split at h
  · rename_i vs e
    split at h
    · rename_i z
      have := Option.some.inj h
      subst this
      dsimp only
      rw [if_pos z]
    · cases h
  · rename_i ne
    cases o with
    | lst vs => exact absurd h (ne vs)
    | _ => rfl
/-- what the items of a deep slot are read in: those of a list of new things, in what is new -/
def dpB (R B : Hp) : Dp → Hp
  | .nl _ _ => newL R B
  | _ => B
theorem dpB_mono {R B B' : Hp} (s : Same B B') (c : Dp) : Same (dpB R B c) (dpB R B' c) := by
  cases c with
  | nl a ds => exact newL_mono s
  | _ => exact s
def DpO (K : PySem.W.Frag) (B H : Hp) : Dp → Prop
  | .ll a as dss => H a = some (.lst (as.map V.ref)) ∧ InOk K B H as dss
  | .dl b a ks as dss => ∃ ep kas, H a = some (DicO b a ep ks kas (as.map V.ref)) ∧ Reps K B (kas.map V.ref) (ks.map (keyD b)) ∧ (b = false → ∀ k ∈ ks, ∃ l, k = [l]) ∧ InOk K B H as dss
  | .nl a ds => ∃ vs, H a = some (.lst vs) ∧ Reps K B vs ds
structure DpOk (K : PySem.W.Frag) (R B H : Hp) (c : Dp) : Prop where
  fr : ∀ a ∈ c.adr :: c.ins, R a = none ∧ B a = none
  nd : (c.adr :: c.ins).Nodup
  ok : DpO K (dpB R B c) H c
theorem DpO.mono {K : PySem.W.Frag} {B B' H H' : Hp} {c : Dp} (h : DpO K B H c) (s : Same B B') (e : ∀ a ∈ c.adr :: c.ins, H' a = H a) : DpO K B' H' c := by
  cases c with
  | ll a as dss => exact ⟨by rw [e a List.mem_cons_self]; exact h.1, h.2.mono s fun x m => e x (List.mem_cons_of_mem _ m)⟩
  | dl b a ks as dss =>
    obtain ⟨ep, kas, h1, h2, h3, h4⟩ := h
    exact ⟨ep, kas, by rw [e a List.mem_cons_self]; exact h1, h2.mono s, h3, h4.mono s fun x m => e x (List.mem_cons_of_mem _ m)⟩
  | nl a ds => obtain ⟨vs, h1, h2⟩ := h; exact ⟨vs, by rw [e a List.mem_cons_self]; exact h1, h2.mono s⟩
theorem DpO.ne {K : PySem.W.Frag} {B H : Hp} {c : Dp} (h : DpO K B H c) {a : Addr} (m : a ∈ c.adr :: c.ins) : H a ≠ none := by
  cases c with
  | ll b as dss =>
    rcases List.mem_cons.mp m with e | m
    · rw [show a = b from e, h.1]; simp
    · exact h.2.ne m
  | dl b p ks as dss =>
    obtain ⟨ep, kas, h1, h2, h3, h4⟩ := h
    rcases List.mem_cons.mp m with e | m
    · rw [show a = p from e, h1]; simp
    · exact h4.ne m
  | nl b ds =>
    obtain ⟨vs, h1, h2⟩ := h
    rcases List.mem_cons.mp m with e | m
    · rw [show a = b from e, h1]; simp
    · simp [Dp.ins] at m
def SlOk (K : PySem.W.Frag) (R : Hp) (W : Addr → Prop) (B H : Hp) (o : Option V) : Sl → Prop
  | .no => True
  | .val d => ∃ v, o = some v ∧ Rep K B v d
  | .own c => ∃ a, o = some (.ref a) ∧ R a = none ∧ B a = none ∧ CnOk K B H a c
  | .bag => ∃ b, o = some (.ref b) ∧ (W b ∨ R b = none) ∧ B b = none ∧ Bag H b
  | .new d => ∃ v, o = some v ∧ Rep K (mixB R W B) v d
  | .pin v d => o = some v ∧ Rep K (mixB R W B) v d
  | .deep c => o = some (.ref c.adr) ∧ DpOk K R B H c
structure Ev (K : PySem.W.Frag) (R : Hp) (W : Addr → Prop) (B H : Hp) (σ : St) (ρ : List Sl) : Prop extends Wd R W B H where
  len : σ.length = ρ.length
  ok : ∀ (i : Nat) (k : Sl), ρ[i]? = some k → SlOk K R W B H (σ[i]?).join k
  sep : ∀ (i j : Nat) (a : Addr), MutAt σ ρ i a → MutAt σ ρ j a → i = j
structure Grow (R B B' : Hp) : Prop where
  s : Same B B'
  n : ∀ a o, B' a = some o → B a = some o ∨ R a = none
theorem Grow.refl (R B : Hp) : Grow R B B := ⟨Same.refl _, fun _ _ h => .inl h⟩
theorem Grow.trans {R B B' B'' : Hp} (g : Grow R B B') (h : Grow R B' B'') : Grow R B B'' := ⟨g.s.trans h.s, fun a o e => (h.n a o e).elim (g.n a o) .inr⟩
theorem Wd.fresh {R : Hp} {W : Addr → Prop} {B H : Hp} (w : Wd R W B H) {p : Addr} (h : H p = none) : R p = none ∧ ¬ W p ∧ B p = none := by
  have nw : ¬ W p := fun z => by
    obtain ⟨x, y, e, _⟩ := w.wh p z
    rw [h] at e; cases e
  refine ⟨?_, nw, w.bh.free h⟩
  cases q : R p with
  | none => rfl
  | some o => rw [w.fr p o q nw] at h; cases h
theorem join_some {α : Type} {o : Option (Option α)} {v : α} (h : o.join = some v) : o = some (some v) := by
  cases o with
  | none => cases h
  | some x => exact congrArg some h
section
variable {K : PySem.W.Frag} {R : Hp} {W : Addr → Prop} {B B' H H' : Hp} {σ : St} {ρ : List Sl}
theorem Ev.val (e : Ev K R W B H σ ρ) {i : Nat} {d : D} (h : ρ[i]? = some (.val d)) : ∃ v, σ[i]? = some (some v) ∧ Rep K B v d := by
  obtain ⟨v, h1, h2⟩ := e.ok i _ h
  exact ⟨v, join_some h1, h2⟩
theorem Ev.ownAt (e : Ev K R W B H σ ρ) {i : Nat} {ds : List D} (h : ρ[i]? = some (.own ds)) : ∃ a vs, σ[i]? = some (some (.ref a)) ∧ R a = none ∧ B a = none ∧ H a = some (.lst vs) ∧ Reps K B vs ds := by
  obtain ⟨a, h1, h2, h3, vs, h4, h5⟩ := e.ok i _ h
  exact ⟨a, vs, join_some h1, h2, h3, h4, h5⟩
theorem Ev.ownC (e : Ev K R W B H σ ρ) {i : Nat} {c : Cn} (h : ρ[i]? = some (.own c)) : ∃ a, σ[i]? = some (some (.ref a)) ∧ R a = none ∧ B a = none ∧ CnOk K B H a c := by
  obtain ⟨a, h1, h2⟩ := e.ok i _ h
  exact ⟨a, join_some h1, h2⟩
theorem Ev.bagAt (e : Ev K R W B H σ ρ) {i : Nat} (h : ρ[i]? = some .bag) : ∃ b, σ[i]? = some (some (.ref b)) ∧ (W b ∨ R b = none) ∧ B b = none ∧ Bag H b := by
  obtain ⟨a, h1, h2⟩ := e.ok i _ h
  exact ⟨a, join_some h1, h2⟩
theorem Ev.deepAt (e : Ev K R W B H σ ρ) {i : Nat} {c : Dp} (h : ρ[i]? = some (.deep c)) : σ[i]? = some (some (.ref c.adr)) ∧ DpOk K R B H c := by
  obtain ⟨h1, h2⟩ := e.ok i _ h
  exact ⟨join_some h1, h2⟩
theorem Ev.mutOk (e : Ev K R W B H σ ρ) {i : Nat} {a : Addr} (m : MutAt σ ρ i a) : B a = none ∧ H a ≠ none := by
  rcases m with ⟨h1, h2 | ⟨ds, h2⟩⟩ | ⟨c, h1, h2⟩
  · obtain ⟨b, e1, _, e3, x, y, e4, _⟩ := e.bagAt h2
    rw [h1] at e1; cases e1
    exact ⟨e3, by rw [e4]; simp⟩
  · obtain ⟨b, e1, _, e3, e4⟩ := e.ownC h2
    rw [h1] at e1; cases e1
    exact ⟨e3, e4.ne⟩
  · have q := (e.deepAt h1).2
    exact ⟨(q.fr a h2).2, q.ok.ne h2⟩
theorem mut_in {i : Nat} {a : Addr} (m : MutAt σ ρ i a) (n : ∀ c, ρ[i]? ≠ some (.deep c)) : σ[i]? = some (some (.ref a)) ∧ (ρ[i]? = some .bag ∨ ∃ ds, ρ[i]? = some (.own ds)) := by
  rcases m with m | ⟨c, h, _⟩
  · exact m
  · exact absurd h (n c)
theorem mut_bag {i : Nat} {a : Addr} (m : MutAt σ ρ i a) (h : ρ[i]? = some .bag) : σ[i]? = some (some (.ref a)) := (mut_in m fun c z => by rw [h] at z; cases z).1
/-- another heap, the slots as they are -/
theorem Ev.move (e : Ev K R W B H σ ρ) (w : Wd R W B' H') (s : Same B B') (m : ∀ i a, MutAt σ ρ i a → B' a = none ∧ (ρ[i]? = some .bag → Bag H' a) ∧ (ρ[i]? ≠ some .bag → H' a = H a)) : Ev K R W B' H' σ ρ := by
  refine ⟨w, e.len, fun i k h => ?_, e.sep⟩
  cases k with
  | no => trivial
  | new d =>
    obtain ⟨v, h1, h2⟩ := e.ok i _ h
    exact ⟨v, h1, h2.mono (mixB_mono s)⟩
  | pin v d =>
    obtain ⟨h1, h2⟩ := e.ok i _ h
    exact ⟨h1, h2.mono (mixB_mono s)⟩
  | val d =>
    obtain ⟨v, h1, h2⟩ := e.ok i _ h
    exact ⟨v, h1, h2.mono s⟩
  | own ds =>
    obtain ⟨a, h1, h2, h3, h4⟩ := e.ok i _ h
    obtain ⟨m1, m2, m3⟩ := m i a (.inl ⟨join_some h1, .inr ⟨ds, h⟩⟩)
    exact ⟨a, h1, h2, m1, h4.mono s (m3 (by rw [h]; simp))⟩
  | deep c =>
    obtain ⟨h1, h2⟩ := e.ok i _ h
    have mm : ∀ a ∈ c.adr :: c.ins, B' a = none ∧ H' a = H a := fun a ma => by
      obtain ⟨m1, m2, m3⟩ := m i a (.inr ⟨c, h, ma⟩)
      exact ⟨m1, m3 (by rw [h]; simp)⟩
    exact ⟨h1, fun a ma => ⟨(h2.fr a ma).1, (mm a ma).1⟩, h2.nd, h2.ok.mono (dpB_mono s c) fun a ma => (mm a ma).2⟩
  | bag =>
    obtain ⟨b, h1, h2, h3, h4⟩ := e.ok i _ h
    obtain ⟨m1, m2, m3⟩ := m i b (.inl ⟨join_some h1, .inl h⟩)
    exact ⟨b, h1, h2, m1, m2 h⟩
theorem Bag.upd {H : Hp} {b p : Addr} {o : HO} (h : Bag H b) (n : b ≠ p) : Bag (L2.upd H p o) b := by
  obtain ⟨x, y, e, q⟩ := h
  exact ⟨x, y, by rw [upd_ne n]; exact e, q⟩
theorem Wd.alloc (w : Wd R W B H) {p : Addr} (h : H p = none) (o : HO) : Wd R W (upd B p o) (upd H p o) := by
  obtain ⟨f1, f2, f3⟩ := w.fresh h
  refine ⟨fun a u q nw => ?_, fun a u q => ?_, fun a z => ?_, fun a z => ?_, w.wr⟩
  · rw [upd_ne (by rintro rfl; rw [f1] at q; cases q)]; exact w.fr a u q nw
  · unfold L2.upd at q ⊢
    split
    · rename_i z; rw [if_pos z] at q; exact q
    · rename_i z; rw [if_neg z] at q; exact w.bh a u q
  · rw [upd_ne (by rintro rfl; exact f2 z)]; exact w.wb a z
  · exact (w.wh a z).upd (by rintro rfl; exact f2 z)
theorem Wd.allocH (w : Wd R W B H) {p : Addr} (h : H p = none) (o : HO) : Wd R W B (upd H p o) := by
  obtain ⟨f1, f2, f3⟩ := w.fresh h
  refine ⟨fun a u q nw => ?_, fun a u q => ?_, w.wb, fun a z => ?_, w.wr⟩
  · rw [upd_ne (by rintro rfl; rw [f1] at q; cases q)]; exact w.fr a u q nw
  · rw [upd_ne (by rintro rfl; rw [f3] at q; cases q)]; exact w.bh a u q
  · exact (w.wh a z).upd (by rintro rfl; exact f2 z)
theorem Ev.notNew (e : Ev K R W B H σ ρ) {p : Addr} (h : H p = none) {i : Nat} {a : Addr} (m : MutAt σ ρ i a) : a ≠ p := by
  rintro rfl
  exact (e.mutOk m).2 h
theorem Ev.alloc (e : Ev K R W B H σ ρ) {p : Addr} (h : H p = none) (o : HO) : Ev K R W (upd B p o) (upd H p o) σ ρ := by
  obtain ⟨f1, f2, f3⟩ := e.toWd.fresh h
  refine e.move (e.toWd.alloc h o) (same_new f3 o) fun i a m => ?_
  have n := e.notNew h m
  refine ⟨by rw [upd_ne n]; exact (e.mutOk m).1, fun z => ?_, fun _ => upd_ne n⟩
  obtain ⟨b, e1, _, _, e4⟩ := e.bagAt z
  rw [mut_bag m z] at e1; cases e1
  exact e4.upd n
theorem Ev.allocH (e : Ev K R W B H σ ρ) {p : Addr} (h : H p = none) (o : HO) : Ev K R W B (upd H p o) σ ρ := by
  refine e.move (e.toWd.allocH h o) (Same.refl _) fun i a m => ?_
  have n := e.notNew h m
  refine ⟨(e.mutOk m).1, fun z => ?_, fun _ => upd_ne n⟩
  obtain ⟨b, e1, _, _, e4⟩ := e.bagAt z
  rw [mut_bag m z] at e1; cases e1
  exact e4.upd n
theorem Ev.grow (e : Ev K R W B H σ ρ) {p : Addr} (h : H p = none) (o : HO) : Grow R B (upd B p o) := by
  obtain ⟨f1, f2, f3⟩ := e.toWd.fresh h
  refine ⟨same_new f3 o, fun a u q => ?_⟩
  by_cases z : a = p
  · subst z; exact .inr f1
  · rw [upd_ne z] at q; exact .inl q
/-- a thing of one's own that no slot holds goes over to what stays -/
theorem Ev.freezeO (e : Ev K R W B H σ ρ) {a : Addr} {o : HO} (h : H a = some o) (hr : R a = none) (hb : B a = none) (hm : ∀ i, ¬ MutAt σ ρ i a) : Ev K R W (upd B a o) H σ ρ ∧ Grow R B (upd B a o) := by
  have nw : ¬ W a := fun z => e.wr a z hr
  refine ⟨e.move ⟨e.fr, fun b u q => ?_, fun b z => ?_, e.wh, e.wr⟩ (same_new hb _) (fun i b m => ?_), ⟨same_new hb _, fun b u q => ?_⟩⟩
  · by_cases z : b = a
    · subst z; rw [upd_same] at q; cases q; exact h
    · rw [upd_ne z] at q; exact e.bh b u q
  · rw [upd_ne (by rintro rfl; exact nw z)]; exact e.wb b z
  · have n : b ≠ a := by rintro rfl; exact hm i m
    refine ⟨by rw [upd_ne n]; exact (e.mutOk m).1, fun z => ?_, fun _ => rfl⟩
    obtain ⟨c, e1, _, _, e4⟩ := e.bagAt z
    rw [mut_bag m z] at e1; cases e1
    exact e4
  · by_cases z : b = a
    · subst z; exact .inr hr
    · rw [upd_ne z] at q; exact .inl q
theorem Ev.freeze (e : Ev K R W B H σ ρ) {a : Addr} {vs : List V} (h : H a = some (.lst vs)) (hr : R a = none) (hb : B a = none) (hm : ∀ i, ¬ MutAt σ ρ i a) : Ev K R W (upd B a (.lst vs)) H σ ρ ∧ Grow R B (upd B a (.lst vs)) := e.freezeO h hr hb hm
theorem getElem?_set_some {α : Type} {l : List α} {i j : Nat} {x y : α} (h : (l.set i x)[j]? = some y) : (j = i ∧ y = x) ∨ (j ≠ i ∧ l[j]? = some y) := by
  by_cases e : i = j
  · subst e
    rw [List.getElem?_set_self'] at h
    cases q : l[i]? with
    | none => rw [q] at h; cases h
    | some z => rw [q] at h; exact .inl ⟨rfl, (Option.some.inj h).symm⟩
  · rw [List.getElem?_set_ne e] at h
    exact .inr ⟨fun z => e z.symm, h⟩
def Sl.adrs : Sl → List Addr
  | .deep c => c.adr :: c.ins
  | _ => []
theorem mut_set {i j : Nat} {v : V} {k : Sl} {a : Addr} (m : MutAt (σ.set i (some v)) (ρ.set i k) j a) : (j = i ∧ ((v = .ref a ∧ (k = .bag ∨ ∃ ds, k = .own ds)) ∨ a ∈ k.adrs)) ∨ (j ≠ i ∧ MutAt σ ρ j a) := by
  rcases m with ⟨h1, h2⟩ | ⟨c, h1, h2⟩
  · rcases getElem?_set_some h1 with ⟨e, h1⟩ | ⟨e, h1⟩
    · refine .inl ⟨e, .inl ⟨(Option.some.inj h1).symm, ?_⟩⟩
      rcases h2 with h2 | ⟨ds, h2⟩
      · rcases getElem?_set_some h2 with ⟨_, h2⟩ | ⟨n, _⟩
        · exact .inl h2.symm
        · exact absurd e n
      · rcases getElem?_set_some h2 with ⟨_, h2⟩ | ⟨n, _⟩
        · exact .inr ⟨ds, h2.symm⟩
        · exact absurd e n
    · refine .inr ⟨e, .inl ⟨h1, ?_⟩⟩
      rcases h2 with h2 | ⟨ds, h2⟩
      · rcases getElem?_set_some h2 with ⟨n, _⟩ | ⟨_, h2⟩
        · exact absurd n e
        · exact .inl h2
      · rcases getElem?_set_some h2 with ⟨n, _⟩ | ⟨_, h2⟩
        · exact absurd n e
        · exact .inr ⟨ds, h2⟩
  · rcases getElem?_set_some h1 with ⟨e, h1⟩ | ⟨e, h1⟩
    · exact .inl ⟨e, .inr (by rw [← h1]; exact h2)⟩
    · exact .inr ⟨e, .inr ⟨c, h1, h2⟩⟩
theorem mut_setV {i j : Nat} {v : V} {k : Sl} {a : Addr} (m : MutAt (σ.set i (some v)) (ρ.set i k) j a) (n1 : k ≠ .bag) (n2 : ∀ c, k ≠ .own c) (n3 : k.adrs = []) : j ≠ i ∧ MutAt σ ρ j a := by
  rcases mut_set m with ⟨_, ⟨_, z | ⟨c, z⟩⟩ | z⟩ | m
  · exact absurd z n1
  · exact absurd z (n2 c)
  · rw [n3] at z; cases z
  · exact m
/-- a slot is given a value -/
theorem Ev.set (e : Ev K R W B H σ ρ) (i : Nat) {v : V} {k : Sl} (hk : SlOk K R W B H (some v) k) (hm : ∀ a, v = .ref a → (k = .bag ∨ ∃ ds, k = .own ds) → ∀ j, j ≠ i → ¬ MutAt σ ρ j a) (hd : ∀ a ∈ k.adrs, ∀ j, j ≠ i → ¬ MutAt σ ρ j a := by intro _ z; cases z) : Ev K R W B H (σ.set i (some v)) (ρ.set i k) := by
  refine ⟨e.toWd, by rw [List.length_set, List.length_set]; exact e.len, fun j k' h => ?_, fun x y a hx hy => ?_⟩
  · rcases getElem?_set_some h with ⟨rfl, rfl⟩ | ⟨n, h⟩
    · have lt : j < σ.length := by
        rw [e.len]
        by_cases z : j < ρ.length
        · exact z
        · rw [List.getElem?_eq_none (by rw [List.length_set]; omega)] at h; cases h
      have q : ((σ.set j (some v))[j]?).join = some v := by rw [List.getElem?_set_self lt]; rfl
      rw [q]; exact hk
    · rw [List.getElem?_set_ne (fun z => n z.symm)]
      exact e.ok j k' h
  · rcases mut_set hx with ⟨e1, z1⟩ | ⟨n1, m1⟩
    · rcases mut_set hy with ⟨e2, _⟩ | ⟨n2, m2⟩
      · rw [e1, e2]
      · rcases z1 with ⟨v1, k1⟩ | z1
        · exact absurd m2 (hm a v1 k1 y n2)
        · exact absurd m2 (hd a z1 y n2)
    · rcases mut_set hy with ⟨e2, z2⟩ | ⟨n2, m2⟩
      · rcases z2 with ⟨v2, k2⟩ | z2
        · exact absurd m1 (hm a v2 k2 x n1)
        · exact absurd m1 (hd a z2 x n1)
      · exact e.sep x y a m1 m2
theorem Ev.setV (e : Ev K R W B H σ ρ) (i : Nat) {v : V} {d : D} (r : Rep K B v d) : Ev K R W B H (σ.set i (some v)) (ρ.set i (.val d)) :=
  e.set i ⟨v, rfl, r⟩ fun _ _ z => by rcases z with z | ⟨_, z⟩ <;> cases z
theorem Ev.setO (e : Ev K R W B H σ ρ) (i : Nat) {a : Addr} {vs : List V} {ds : List D} (hr : R a = none) (hb : B a = none) (hh : H a = some (.lst vs)) (r : Reps K B vs ds) (hm : ∀ j, j ≠ i → ¬ MutAt σ ρ j a) : Ev K R W B H (σ.set i (some (.ref a))) (ρ.set i (.own ds)) :=
  e.set i ⟨a, rfl, hr, hb, vs, hh, r⟩ fun b z _ => by cases z; exact hm
/-- a slot's own list is written: another content -/
theorem Ev.writeC (e : Ev K R W B H σ ρ) {i : Nat} {a : Addr} {c c' : Cn} {o : HO} (h : σ[i]? = some (some (.ref a))) (ho : ρ[i]? = some (.own c)) (r : CnOk K B (upd H a o) a c') : Ev K R W B (upd H a o) σ (ρ.set i (.own c')) := by
  obtain ⟨a', e1, e2, e3, e4⟩ := e.ownC ho
  rw [h] at e1; cases e1
  have nw : ¬ W a := fun z => e.wr a z e2
  have me : MutAt σ ρ i a := .inl ⟨h, .inr ⟨c, ho⟩⟩
  refine ⟨⟨fun b u q z => ?_, fun b u q => ?_, e.wb, fun b z => ?_, e.wr⟩, by rw [List.length_set]; exact e.len, fun j k q => ?_, fun x y b hx hy => ?_⟩
  · rw [upd_ne (by rintro rfl; rw [e2] at q; cases q)]; exact e.fr b u q z
  · rw [upd_ne (by rintro rfl; rw [e3] at q; cases q)]; exact e.bh b u q
  · exact (e.wh b z).upd (by rintro rfl; exact nw z)
  · rcases getElem?_set_some q with ⟨rfl, rfl⟩ | ⟨n, q⟩
    · exact ⟨a, by rw [h]; rfl, e2, e3, r⟩
    · have z := e.ok j k q
      cases k with
      | no => trivial
      | new d => exact z
      | pin v d => exact z
      | val d => exact z
      | own es =>
        obtain ⟨b, z1, z2, z3, z4⟩ := z
        exact ⟨b, z1, z2, z3, z4.mono (Same.refl _) (upd_ne (by rintro rfl; exact n (e.sep j i b (.inl ⟨join_some z1, .inr ⟨es, q⟩⟩) me)))⟩
      | deep d =>
        exact ⟨z.1, z.2.fr, z.2.nd, z.2.ok.mono (Same.refl _) fun b mb => upd_ne (by rintro rfl; exact n (e.sep j i b (.inr ⟨d, q, mb⟩) me))⟩
      | bag =>
        obtain ⟨b, z1, z2, z3, z4⟩ := z
        exact ⟨b, z1, z2, z3, z4.upd (by rintro rfl; exact n (e.sep j i b (.inl ⟨join_some z1, .inl q⟩) me))⟩
  · have back : ∀ x, MutAt σ (ρ.set i (.own c')) x b → MutAt σ ρ x b := fun x m => by
      rcases m with ⟨m1, m2⟩ | ⟨d, m1, m2⟩
      · by_cases z : x = i
        · subst z; exact .inl ⟨m1, .inr ⟨c, ho⟩⟩
        · refine .inl ⟨m1, ?_⟩
          rw [List.getElem?_set_ne (fun w => z w.symm)] at m2
          exact m2
      · rcases getElem?_set_some m1 with ⟨_, z⟩ | ⟨_, m1⟩
        · cases z
        · exact .inr ⟨d, m1, m2⟩
    exact e.sep x y b (back x hx) (back y hy)
theorem Ev.write (e : Ev K R W B H σ ρ) {i : Nat} {a : Addr} {ds ds' : List D} {vs : List V} (h : σ[i]? = some (some (.ref a))) (ho : ρ[i]? = some (.own ds)) (r : Reps K B vs ds') : Ev K R W B (upd H a (.lst vs)) σ (ρ.set i (.own ds')) :=
  e.writeC h ho ⟨vs, upd_same, r⟩
theorem Ev.fz (e : Ev K R W B H σ ρ) {i : Nat} {ds : List D} (ho : ρ[i]? = some (.own ds)) : ∃ B', Ev K R W B' H σ (ρ.set i (.val (.lst ds))) ∧ Grow R B B' := by
  obtain ⟨a, vs, e1, e2, e3, e4, e5⟩ := e.ownAt ho
  have me : MutAt σ ρ i a := .inl ⟨e1, .inr ⟨ds, ho⟩⟩
  have f := (e.setV (d := .non) i (v := .non) .non)
  have f2 := f.freeze e4 e2 e3 (fun j m => by
    obtain ⟨n, m⟩ := mut_setV m (by simp) (by simp) rfl
    exact n (e.sep j i a m me))
  refine ⟨_, ?_, f2.2⟩
  have g := f2.1.setV i (v := .ref a) (d := .lst ds) (.lst upd_same (e5.mono f2.2.s))
  rw [List.set_set, List.set_set] at g
  have q : σ.set i (some (.ref a)) = σ := by
    apply List.ext_getElem?
    intro j
    by_cases z : i = j
    · subst z
      have lt : i < σ.length := by
        by_cases z : i < σ.length
        · exact z
        · rw [List.getElem?_eq_none (by omega)] at e1; cases e1
      rw [List.getElem?_set_self lt, e1]
    · rw [List.getElem?_set_ne z]
  rw [q] at g
  exact g
end
end L3

/-! The readings of the hand layer over trees: what an expression, a test, a statement comes to, without any heap. -/
namespace L3
open PySem L2
open PySem.Builtin.Int (intBits)
abbrev UE := List Sl → (D → Prop) → Prop
abbrev UL := List Sl → (List D → Prop) → Prop
abbrev UT := List Sl → (Bool → Prop) → Prop
inductive Arg where
  | val (d : D) | bag (i : Nat)
abbrev UA := List Sl → (List Arg → Prop) → Prop
structure UEnds where
  nx : List Sl → Prop
  rt : Sl → Prop
  bk : List Sl → Prop := fun _ => False
  ct : List Sl → Prop := fun _ => False
abbrev US := UEnds → List Sl → Prop
abbrev UG := D → List Sl → (List Sl → Prop) → Prop
abbrev UGs := List D → List Sl → (List Sl → Prop) → Prop
section
variable (K : PySem.W.Frag)
def RefE (t : TE) (u : UE) : Prop := ∀ (ρ : List Sl) (k : D → Prop), u ρ k → ∀ (R : Hp) (W : Addr → Prop) (B H : Hp) (σ : St) (Q : VK), Ev K R W B H σ ρ →
  (∀ d v B' H', k d → Ev K R W B' H' σ ρ → Grow R B B' → Rep K B' v d → Q v H') → t σ H Q
/-- a new list that nothing else holds -/
def RefO (t : TE) (u : UL) : Prop := ∀ (ρ : List Sl) (k : List D → Prop), u ρ k → ∀ (R : Hp) (W : Addr → Prop) (B H : Hp) (σ : St) (Q : VK), Ev K R W B H σ ρ →
  (∀ ds a vs B' H', k ds → Ev K R W B' H' σ ρ → Grow R B B' → R a = none → B' a = none → H' a = some (.lst vs) → Reps K B' vs ds → (∀ i, ¬ MutAt σ ρ i a) → Q (.ref a) H') → t σ H Q
def RefT (t : TT) (u : UT) : Prop := ∀ (ρ : List Sl) (k : Bool → Prop), u ρ k → ∀ (R : Hp) (W : Addr → Prop) (B H : Hp) (σ : St) (Q : Bool → Hp → Prop), Ev K R W B H σ ρ →
  (∀ b B' H', k b → Ev K R W B' H' σ ρ → Grow R B B' → Q b H') → t σ H Q
def RefL (t : TA) (u : UL) : Prop := ∀ (ρ : List Sl) (k : List D → Prop), u ρ k → ∀ (R : Hp) (W : Addr → Prop) (B H : Hp) (σ : St) (Q : List V → Hp → Prop), Ev K R W B H σ ρ →
  (∀ ds vs B' H', k ds → Ev K R W B' H' σ ρ → Grow R B B' → Reps K B' vs ds → Q vs H') → t σ H Q
inductive ArgsOk (B : Hp) (σ : St) (ρ : List Sl) : List V → List Arg → Prop where
  | nil : ArgsOk B σ ρ [] []
  | val {v : V} {d : D} {vs : List V} {as : List Arg} (h : Rep K B v d) (r : ArgsOk B σ ρ vs as) : ArgsOk B σ ρ (v :: vs) (.val d :: as)
  | bag {v : V} {i : Nat} {vs : List V} {as : List Arg} (h : σ[i]? = some (some v)) (hb : ρ[i]? = some .bag) (r : ArgsOk B σ ρ vs as) : ArgsOk B σ ρ (v :: vs) (.bag i :: as)
def RefA (t : TA) (u : UA) : Prop := ∀ (ρ : List Sl) (k : List Arg → Prop), u ρ k → ∀ (R : Hp) (W : Addr → Prop) (B H : Hp) (σ : St) (Q : List V → Hp → Prop), Ev K R W B H σ ρ →
  (∀ as vs B' H', k as → Ev K R W B' H' σ ρ → Grow R B B' → ArgsOk K B' σ ρ vs as → Q vs H') → t σ H Q
/-- three lists handed back at once: of new things, where so marked -/
def rsB (R B : Hp) : Dp → Hp
  | .dl _ _ _ _ _ => newL R B
  | _ => B
/-- what a def hands back -/
def ResOk (R : Hp) (B H : Hp) (v : V) : Sl → Prop
  | .no => False
  | .val d => Rep K B v d
  | .own c => ∃ a, v = .ref a ∧ R a = none ∧ B a = none ∧ CnOk K B H a c
  | .bag => ∃ b, v = .ref b ∧ R b = none ∧ B b = none ∧ Bag H b
  | .new d => Rep K (newL R B) v d
  | .pin _ _ => False
  | .deep c => v = .ref c.adr ∧ H c.adr = some (.tup (c.ins.map V.ref)) ∧ InOk K (rsB R B c) H c.ins c.dss ∧ (∀ a ∈ c.ins, R a = none ∧ B a = none) ∧ c.ins.Nodup
structure Sim (R : Hp) (W : Addr → Prop) (B : Hp) (U : UEnds) (D : Ends) : Prop where
  nx : ∀ ρ σ B' H', U.nx ρ → Ev K R W B' H' σ ρ → Grow R B B' → D.nx σ H'
  bk : ∀ ρ σ B' H', U.bk ρ → Ev K R W B' H' σ ρ → Grow R B B' → D.bk σ H'
  ct : ∀ ρ σ B' H', U.ct ρ → Ev K R W B' H' σ ρ → Grow R B B' → D.ct σ H'
  rt : ∀ r v B' H', U.rt r → Wd R W B' H' → Grow R B B' → ResOk K R B' H' v r → D.rt v H'
def RefS (t : TS) (u : US) : Prop := ∀ (U : UEnds) (ρ : List Sl), u U ρ → ∀ (R : Hp) (W : Addr → Prop) (B H : Hp) (σ : St) (D : Ends), Ev K R W B H σ ρ → Sim K R W B U D → t D σ H
def RefG (g : TG) (u : UG) : Prop := ∀ (d : D) (ρ : List Sl) (k : List Sl → Prop), u d ρ k → ∀ (R : Hp) (W : Addr → Prop) (B H : Hp) (σ : St) (v : V) (Q : St → Hp → Prop), Ev K R W B H σ ρ → Rep K B v d →
  (∀ ρ' σ', k ρ' → Ev K R W B H σ' ρ' → (∀ j a, MutAt σ' ρ' j a → MutAt σ ρ j a) → Q σ' H) → g v σ H Q
def RefGs (g : TGs) (u : UGs) : Prop := ∀ (ds : List D) (ρ : List Sl) (k : List Sl → Prop), u ds ρ k → ∀ (R : Hp) (W : Addr → Prop) (B H : Hp) (σ : St) (vs : List V) (Q : St → Hp → Prop), Ev K R W B H σ ρ → Reps K B vs ds →
  (∀ ρ' σ', k ρ' → Ev K R W B H σ' ρ' → (∀ j a, MutAt σ' ρ' j a → MutAt σ ρ j a) → Q σ' H) → g vs σ H Q
/-- what is walked -/
def ItOk (B : Hp) (J : It) (ds : List D) : Prop := ∀ (H : Hp), Same B H → ∀ i, (i < ds.length → J.go i H) ∧ (ds.length ≤ i → J.stop i H) ∧ ∀ x H', i < ds.length → J.yld i H x H' → H' = H ∧ ∃ d, ds[i]? = some d ∧ Rep K B x d
def RefI (t : TI) (u : UL) : Prop := ∀ (ρ : List Sl) (k : List D → Prop), u ρ k → ∀ (R : Hp) (W : Addr → Prop) (B H : Hp) (σ : St) (Q : It → Hp → Prop), Ev K R W B H σ ρ →
  (∀ ds J B' H', k ds → Ev K R W B' H' σ ρ → Grow R B B' → ItOk K B' J ds → Q J H') → t σ H Q
end
theorem Sim.grow {K : PySem.W.Frag} {R : Hp} {W : Addr → Prop} {B B' : Hp} {U : UEnds} {D : Ends} (s : Sim K R W B U D) (g : Grow R B B') : Sim K R W B' U D :=
  ⟨fun ρ σ C H h e q => s.nx ρ σ C H h e (g.trans q), fun ρ σ C H h e q => s.bk ρ σ C H h e (g.trans q), fun ρ σ C H h e q => s.ct ρ σ C H h e (g.trans q), fun r v C H h e q z => s.rt r v C H h e (g.trans q) z⟩
section
variable (X : Cx)
def PE3 (e : Expr) (u : UE) : Prop := ∃ t, PE X e t ∧ RefE X.K t u
def PO3 (e : Expr) (u : UL) : Prop := ∃ t, PE X e t ∧ RefO X.K t u
def PT3 (e : Expr) (u : UT) : Prop := ∃ t, PT X e t ∧ RefT X.K t u
def PW3 (e : Expr) (u : UT) : Prop := ∃ t, PW X e t ∧ RefT X.K t u
def PL3 (es : List Expr) (u : UL) : Prop := ∃ t, PA X es t ∧ RefL X.K t u
def PA3 (es : List Expr) (u : UA) : Prop := ∃ t, PA X es t ∧ RefA X.K t u
def PS3 (s : Stmt) (u : US) : Prop := ∃ t, PS X s t ∧ RefS X.K t u
def PSs3 (s : List Stmt) (u : US) : Prop := ∃ t, PSs X s t ∧ RefS X.K t u
def PG3 (e : Expr) (u : UG) : Prop := ∃ t, PG X e t ∧ RefG X.K t u
def PGs3 (e : List Expr) (u : UGs) : Prop := ∃ t, PGs X e t ∧ RefGs X.K t u
def PI3 (tg e : Expr) (u : UL) : Prop := ∃ t, PI X tg e t ∧ RefI X.K t u
end
/-! ### expressions -/
def uVar (i : Nat) : UE := fun ρ k => ∃ d, ρ[i]? = some (.val d) ∧ k d
def uC (d : D) : UE := fun _ k => k d
def uI (C : Int → Int → Prop) (g : Int → Int → D) (ua ub : UE) : UE := fun ρ k => ua ρ fun x => ub ρ fun y => ∃ i j, x = .int i ∧ y = .int j ∧ C i j ∧ k (g i j)
def uI0 (g : Int → Int → D) (ua ub : UE) : UE := fun ρ k => ua ρ fun x => ub ρ fun y => ∃ i j, x = .int i ∧ y = .int j ∧ k (g i j)
def uNeg (ua : UE) : UE := fun ρ k => ua ρ fun x => ∃ i, x = .int i ∧ k (.int (-i))
section
variable {K : PySem.W.Frag} {X : Cx}
theorem refVar (i : Nat) : RefE K (tVar i) (uVar i) := by
  intro ρ k h R W B H σ Q e q
  obtain ⟨d, h, z⟩ := h
  obtain ⟨v, e1, r⟩ := e.val h
  exact ⟨v, e1, q d v B H z e (Grow.refl _ _) r⟩
theorem refC {v : V} {d : D} (h : ∀ B, Rep K B v d) : RefE K (tC v) (uC d) := fun ρ k z R W B H σ Q e q => q d v B H z e (Grow.refl _ _) (h B)
theorem ref2 {ta tb : TE} {ua ub : UE} {r : R2} {f : D → D → (D → Prop) → Prop} (ha : RefE K ta ua) (hb : RefE K tb ub)
    (hr : ∀ (x y : D) (k : D → Prop), f x y k → ∀ (R : Hp) (W : Addr → Prop) (B H : Hp) (σ : St) (ρ : List Sl) (v w : V) (Q : VK), Ev K R W B H σ ρ → Rep K B v x → Rep K B w y → (∀ d v B' H', k d → Ev K R W B' H' σ ρ → Grow R B B' → Rep K B' v d → Q v H') → r v w H Q) :
    RefE K (tOp r ta tb) (fun ρ k => ua ρ fun x => ub ρ fun y => f x y k) := by
  intro ρ k h R W B H σ Q e q
  refine ha ρ _ h R W B H σ _ e fun x v B1 H1 h1 e1 g1 r1 => ?_
  refine hb ρ _ h1 R W B1 H1 σ _ e1 fun y w B2 H2 h2 e2 g2 r2 => ?_
  exact hr x y k h2 R W B2 H2 σ ρ v w Q e2 (r1.mono g2.s) r2 fun d u B3 H3 h3 e3 g3 r3 => q d u B3 H3 h3 e3 ((g1.trans g2).trans g3) r3
theorem ref1 {ta : TE} {ua : UE} {r : V → Hp → VK → Prop} {f : D → (D → Prop) → Prop} (ha : RefE K ta ua)
    (hr : ∀ (x : D) (k : D → Prop), f x k → ∀ (R : Hp) (W : Addr → Prop) (B H : Hp) (σ : St) (ρ : List Sl) (v : V) (Q : VK), Ev K R W B H σ ρ → Rep K B v x → (∀ d v B' H', k d → Ev K R W B' H' σ ρ → Grow R B B' → Rep K B' v d → Q v H') → r v H Q) :
    RefE K (tUn r ta) (fun ρ k => ua ρ fun x => f x k) := by
  intro ρ k h R W B H σ Q e q
  refine ha ρ _ h R W B H σ _ e fun x v B1 H1 h1 e1 g1 r1 => ?_
  exact hr x k h1 R W B1 H1 σ ρ v Q e1 r1 fun d u B3 H3 h3 e3 g3 r3 => q d u B3 H3 h3 e3 (g1.trans g3) r3
theorem Rep.intV {B : Hp} {v : V} {i : Int} (r : Rep K B v (.int i)) : v = .int i := by cases r; rfl
theorem Rep.blV {B : Hp} {v : V} {b : Bool} (r : Rep K B v (.bl b)) : v = .bl b := by cases r; rfl
theorem Rep.nonV {B : Hp} {v : V} (r : Rep K B v .non) : v = .non := by cases r; rfl
theorem Rep.tupV {B : Hp} {v : V} {ds : List D} (r : Rep K B v (.tup ds)) : ∃ a vs, v = .ref a ∧ B a = some (.tup vs) ∧ Reps K B vs ds := by
  cases r with | tup h r => exact ⟨_, _, rfl, h, r⟩
theorem Rep.lstV {B : Hp} {v : V} {ds : List D} (r : Rep K B v (.lst ds)) : ∃ a vs, v = .ref a ∧ B a = some (.lst vs) ∧ Reps K B vs ds := by
  cases r with | lst h r => exact ⟨_, _, rfl, h, r⟩
theorem Rep.scrV {B : Hp} {v : V} {ns : List Int} (r : Rep K B v (.scr ns)) : ∃ a, v = .ref a ∧ SqL K B a (ns.map V.int) := by
  cases r with | scr h => exact ⟨_, rfl, h⟩
theorem refI {C : Int → Int → Prop} {f : Int → Int → V} {g : Int → Int → D} {ta tb : TE} {ua ub : UE} (hg : ∀ B i j, Rep K B (f i j) (g i j)) (ha : RefE K ta ua) (hb : RefE K tb ub) : RefE K (tOp (rI C f) ta tb) (uI C g ua ub) :=
  ref2 ha hb fun x y k h R W B H σ ρ v w Q e rx ry q => by
    obtain ⟨i, j, rfl, rfl, hc, hk⟩ := h
    exact ⟨i, j, rx.intV, ry.intV, hc, q _ _ B H hk e (Grow.refl _ _) (hg B i j)⟩
theorem refI0 {f : Int → Int → V} {g : Int → Int → D} {ta tb : TE} {ua ub : UE} (hg : ∀ B i j, Rep K B (f i j) (g i j)) (ha : RefE K ta ua) (hb : RefE K tb ub) : RefE K (tOp (rI0 f) ta tb) (uI0 g ua ub) :=
  ref2 ha hb fun x y k h R W B H σ ρ v w Q e rx ry q => by
    obtain ⟨i, j, rfl, rfl, hk⟩ := h
    exact ⟨i, j, rx.intV, ry.intV, q _ _ B H hk e (Grow.refl _ _) (hg B i j)⟩
theorem refNeg {ta : TE} {ua : UE} (ha : RefE K ta ua) : RefE K (tUn (rU fun i => .int (-i)) ta) (uNeg ua) :=
  ref1 (f := fun x k => ∃ i, x = .int i ∧ k (.int (-i))) ha fun x k h R W B H σ ρ v Q e rx q => by
    obtain ⟨i, rfl, hk⟩ := h
    exact ⟨i, rx.intV, q _ _ B H hk e (Grow.refl _ _) (.int _)⟩
variable {a b : Expr} {ua ub : UE} {pos : Pos}
theorem v3 (i : Nat) {x : Str} {pos : Pos} (hN : X.N[i]? = some x := by rfl) (hv : Vis X.env.scope x := by first | exact Or.inl rfl | exact Or.inr (Or.inl rfl) | exact Or.inr (Or.inr rfl)) (hd : (x == ("__debug__" : Str)) = false := by decide)
    (hcd : (x == ("__classdict__" : Str)) = false := by decide) : PE3 X (.Name x pos) (uVar i) := ⟨_, pe_var hN hv hd hcd, refVar i⟩
theorem e_int {i j pos} : PE3 X (.Constant (.int i) j pos) (uC (.int i)) := ⟨_, pe_int, refC fun _ => .int _⟩
theorem e_bl {b j pos} : PE3 X (.Constant (.bool b) j pos) (uC (.bl b)) := ⟨_, pe_bl, refC fun _ => .bl _⟩
theorem e_non {j pos} : PE3 X (.Constant .none j pos) (uC .non) := ⟨_, pe_non, refC fun _ => .non⟩
theorem e_str {x j pos} : PE3 X (.Constant (.str x) j pos) (uC (.str x)) := ⟨_, pe_str, refC fun _ => .str _⟩
theorem e_add (ha : PE3 X a ua) (hb : PE3 X b ub) : PE3 X (.BinOp a .Add b pos) (uI0 (fun i j => .int (i + j)) ua ub) := by
  obtain ⟨_, h1, r1⟩ := ha; obtain ⟨_, h2, r2⟩ := hb
  exact ⟨_, pe_op op_add h1 h2, refI0 (fun _ _ _ => .int _) r1 r2⟩
theorem e_sub (ha : PE3 X a ua) (hb : PE3 X b ub) : PE3 X (.BinOp a .Sub b pos) (uI0 (fun i j => .int (i - j)) ua ub) := by
  obtain ⟨_, h1, r1⟩ := ha; obtain ⟨_, h2, r2⟩ := hb
  exact ⟨_, pe_op op_sub h1 h2, refI0 (fun _ _ _ => .int _) r1 r2⟩
theorem e_mul (ha : PE3 X a ua) (hb : PE3 X b ub) : PE3 X (.BinOp a .Mult b pos) (uI CMulB (fun i j => .int (i * j)) ua ub) := by
  obtain ⟨_, h1, r1⟩ := ha; obtain ⟨_, h2, r2⟩ := hb
  exact ⟨_, pe_op op_mulB h1 h2, refI (fun _ _ _ => .int _) r1 r2⟩
theorem e_fdiv (ha : PE3 X a ua) (hb : PE3 X b ub) : PE3 X (.BinOp a .FloorDiv b pos) (uI CDivB (fun i j => .int (i.fdiv j)) ua ub) := by
  obtain ⟨_, h1, r1⟩ := ha; obtain ⟨_, h2, r2⟩ := hb
  exact ⟨_, pe_op op_fdivB h1 h2, refI (fun _ _ _ => .int _) r1 r2⟩
theorem e_mod (ha : PE3 X a ua) (hb : PE3 X b ub) : PE3 X (.BinOp a .Mod b pos) (uI (fun _ j => 0 < j) (fun i j => .int (i % j)) ua ub) := by
  obtain ⟨_, h1, r1⟩ := ha; obtain ⟨_, h2, r2⟩ := hb
  exact ⟨_, pe_op op_mod h1 h2, refI (fun _ _ _ => .int _) r1 r2⟩
theorem e_pow (ha : PE3 X a ua) (hb : PE3 X b ub) : PE3 X (.BinOp a .Pow b pos) (uI CPow (fun i j => .int (i ^ j.toNat)) ua ub) := by
  obtain ⟨_, h1, r1⟩ := ha; obtain ⟨_, h2, r2⟩ := hb
  exact ⟨_, pe_op op_pow h1 h2, refI (fun _ _ _ => .int _) r1 r2⟩
theorem e_neg (ha : PE3 X a ua) : PE3 X (.UnaryOp .USub a pos) (uNeg ua) := by
  obtain ⟨_, h1, r1⟩ := ha
  exact ⟨_, pe_un un_neg h1, refNeg r1⟩
/-- a comparison of ints, as a value -/
def Cm (op : CmpOp) (f : Int → Int → Bool) (X : Cx) : Prop := OpR X (compareOp op) (rI0 fun i j => .bl (f i j))
theorem e_cmp {op : CmpOp} {f : Int → Int → Bool} (ho : Cm op f X) (ha : PE3 X a ua) (hb : PE3 X b ub) (hm : behindInMarks op b = false) : PE3 X (.Compare a [op] [b] pos) (uI0 (fun i j => .bl (f i j)) ua ub) := by
  obtain ⟨_, h1, r1⟩ := ha; obtain ⟨_, h2, r2⟩ := hb
  exact ⟨_, pe_cmpR ho h1 h2 hm, refI0 (fun _ _ _ => .bl _) r1 r2⟩
/-! ### tests -/
def uB (ua : UE) : UT := fun ρ k => ua ρ fun x => ∃ c, x = .bl c ∧ k c
def uNotT (u : UT) : UT := fun ρ k => u ρ fun c => k (!c)
def uAndT (u w : UT) : UT := fun ρ k => u ρ fun c => if c = true then w ρ k else k false
def uOrT (u w : UT) : UT := fun ρ k => u ρ fun c => if c = true then k true else w ρ k
theorem refB {ta : TE} {ua : UE} (ha : RefE K ta ua) : RefT K (tB ta) (uB ua) := by
  intro ρ k h R W B H σ Q e q
  refine ha ρ _ h R W B H σ _ e fun x v B1 H1 h1 e1 g1 r1 => ?_
  obtain ⟨c, rfl, hk⟩ := h1
  exact ⟨c, r1.blV, q c B1 H1 hk e1 g1⟩
theorem t_val {e : Expr} {u : UE} (h : PE3 X e u) (he : ∀ whole, isTrue e X.env whole = (do let v ← whole; standAt e.pos; holding [v] (truthy v)) := by intro _; rfl) : PT3 X e (uB u) := by
  obtain ⟨_, h1, r1⟩ := h
  exact ⟨_, pt_val h1 he, refB r1⟩
theorem t_cmp {op : CmpOp} {f : Int → Int → Bool} (ho : Cm op f X) (ha : PE3 X a ua) (hb : PE3 X b ub) (hm : behindInMarks op b = false) : PT3 X (.Compare a [op] [b] pos) (uB (uI0 (fun i j => .bl (f i j)) ua ub)) := by
  obtain ⟨_, h1, r1⟩ := ha; obtain ⟨_, h2, r2⟩ := hb
  exact ⟨_, pt_cmpR ho h1 h2 hm, refB (refI0 (fun _ _ _ => .bl _) r1 r2)⟩
theorem refNotT {t : TT} {u : UT} (h : RefT K t u) : RefT K (tNot t) (uNotT u) := fun ρ k z R W B H σ Q e q => h ρ _ z R W B H σ _ e fun b B' H' h1 e1 g1 => q (!b) B' H' h1 e1 g1
theorem refAndT {t t' : TT} {u u' : UT} (h : RefT K t u) (h' : RefT K t' u') : RefT K (tAnd t t') (uAndT u u') := by
  intro ρ k z R W B H σ Q e q
  refine h ρ _ z R W B H σ _ e fun b B1 H1 h1 e1 g1 => ?_
  cases b with
  | true =>
    rw [if_pos rfl] at h1 ⊢
    exact h' ρ _ h1 R W B1 H1 σ _ e1 fun c B2 H2 h2 e2 g2 => q c B2 H2 h2 e2 (g1.trans g2)
  | false =>
    rw [if_neg Bool.false_ne_true] at h1 ⊢
    exact q false B1 H1 h1 e1 g1
theorem refOrT {t t' : TT} {u u' : UT} (h : RefT K t u) (h' : RefT K t' u') : RefT K (tOr t t') (uOrT u u') := by
  intro ρ k z R W B H σ Q e q
  refine h ρ _ z R W B H σ _ e fun b B1 H1 h1 e1 g1 => ?_
  cases b with
  | false =>
    rw [if_neg Bool.false_ne_true] at h1 ⊢
    exact h' ρ _ h1 R W B1 H1 σ _ e1 fun c B2 H2 h2 e2 g2 => q c B2 H2 h2 e2 (g1.trans g2)
  | true =>
    rw [if_pos rfl] at h1 ⊢
    exact q true B1 H1 h1 e1 g1
theorem t_not {u : UT} (h : PT3 X a u) : PT3 X (.UnaryOp .Not a pos) (uNotT u) := by
  obtain ⟨_, h1, r1⟩ := h
  exact ⟨_, pt_not h1, refNotT r1⟩
theorem w_and1 {u : UT} (h : PT3 X a u) : PW3 X (.BoolOp .And [a] pos) u := by
  obtain ⟨_, h1, r1⟩ := h
  exact ⟨_, pw_and1 h1, r1⟩
theorem w_or1 {u : UT} (h : PT3 X a u) : PW3 X (.BoolOp .Or [a] pos) u := by
  obtain ⟨_, h1, r1⟩ := h
  exact ⟨_, pw_or1 h1, r1⟩
theorem w_and {rest : List Expr} {u u' : UT} (h : PT3 X a u) (h' : PW3 X (.BoolOp .And (b :: rest) pos) u') : PW3 X (.BoolOp .And (a :: b :: rest) pos) (uAndT u u') := by
  obtain ⟨_, h1, r1⟩ := h; obtain ⟨_, h2, r2⟩ := h'
  exact ⟨_, pw_and h1 h2, refAndT r1 r2⟩
theorem w_or {rest : List Expr} {u u' : UT} (h : PT3 X a u) (h' : PW3 X (.BoolOp .Or (b :: rest) pos) u') : PW3 X (.BoolOp .Or (a :: b :: rest) pos) (uOrT u u') := by
  obtain ⟨_, h1, r1⟩ := h; obtain ⟨_, h2, r2⟩ := h'
  exact ⟨_, pw_or h1 h2, refOrT r1 r2⟩
theorem w_t {u : UT} (h : PW3 X a u) : PT3 X a u := by
  obtain ⟨_, h1, r1⟩ := h
  exact ⟨_, h1.pt, r1⟩
/-! ### and, or, not as values -/
def uAndV (u w : UE) : UE := fun ρ k => u ρ fun x => ∃ c, x = .bl c ∧ if c = true then w ρ k else k (.bl false)
def uOrV (u w : UE) : UE := fun ρ k => u ρ fun x => ∃ c, x = .bl c ∧ if c = true then k (.bl true) else w ρ k
theorem e_one {op : BoolOp} (h : PE3 X a ua) : PE3 X (.BoolOp op [a] pos) ua := by
  obtain ⟨_, h1, r1⟩ := h
  exact ⟨_, pe_one h1, r1⟩
theorem e_and {rest : List Expr} (h : PE3 X a ua) (h' : PE3 X (.BoolOp .And (b :: rest) pos) ub) : PE3 X (.BoolOp .And (a :: b :: rest) pos) (uAndV ua ub) := by
  obtain ⟨_, h1, r1⟩ := h; obtain ⟨_, h2, r2⟩ := h'
  refine ⟨_, pe_and h1 h2, fun ρ k z R W B H σ Q e q => ?_⟩
  refine r1 ρ _ z R W B H σ _ e fun x v B1 H1 z1 e1 g1 s1 => ?_
  obtain ⟨c, rfl, z1⟩ := z1
  refine ⟨c, s1.blV, ?_⟩
  cases c with
  | true =>
    rw [if_pos rfl] at z1 ⊢
    exact r2 ρ _ z1 R W B1 H1 σ _ e1 fun d w B2 H2 h2 e2 g2 s2 => q d w B2 H2 h2 e2 (g1.trans g2) s2
  | false =>
    rw [if_neg Bool.false_ne_true] at z1 ⊢
    exact q _ _ B1 H1 z1 e1 g1 (.bl _)
theorem e_or {rest : List Expr} (h : PE3 X a ua) (h' : PE3 X (.BoolOp .Or (b :: rest) pos) ub) : PE3 X (.BoolOp .Or (a :: b :: rest) pos) (uOrV ua ub) := by
  obtain ⟨_, h1, r1⟩ := h; obtain ⟨_, h2, r2⟩ := h'
  refine ⟨_, pe_or h1 h2, fun ρ k z R W B H σ Q e q => ?_⟩
  refine r1 ρ _ z R W B H σ _ e fun x v B1 H1 z1 e1 g1 s1 => ?_
  obtain ⟨c, rfl, z1⟩ := z1
  refine ⟨c, s1.blV, ?_⟩
  cases c with
  | false =>
    rw [if_neg Bool.false_ne_true] at z1 ⊢
    exact r2 ρ _ z1 R W B1 H1 σ _ e1 fun d w B2 H2 h2 e2 g2 s2 => q d w B2 H2 h2 e2 (g1.trans g2) s2
  | true =>
    rw [if_pos rfl] at z1 ⊢
    exact q _ _ B1 H1 z1 e1 g1 (.bl _)
/-- a if c else b -/
def uIfE (c : UT) (u w : UE) : UE := fun ρ k => c ρ fun b => if b = true then u ρ k else w ρ k
theorem e_ifE {c : Expr} {uc : UT} (hc : PT3 X c uc) (ha : PE3 X a ua) (hb : PE3 X b ub) : PE3 X (.IfExp c a b pos) (uIfE uc ua ub) := by
  obtain ⟨_, h0, r0⟩ := hc; obtain ⟨_, h1, r1⟩ := ha; obtain ⟨_, h2, r2⟩ := hb
  refine ⟨_, pe_ifExp h0 h1 h2, fun ρ k z R W B H σ Q e q => ?_⟩
  refine r0 ρ _ z R W B H σ _ e fun c B1 H1 z1 e1 g1 => ?_
  cases c with
  | true =>
    rw [if_pos rfl] at z1 ⊢
    exact r1 ρ _ z1 R W B1 H1 σ _ e1 fun d w B2 H2 h2 e2 g2 s2 => q d w B2 H2 h2 e2 (g1.trans g2) s2
  | false =>
    rw [if_neg Bool.false_ne_true] at z1 ⊢
    exact r2 ρ _ z1 R W B1 H1 σ _ e1 fun d w B2 H2 h2 e2 g2 s2 => q d w B2 H2 h2 e2 (g1.trans g2) s2
/-! ### lists of expressions, displays -/
def uNil : UL := fun _ k => k []
def uCons (u : UE) (w : UL) : UL := fun ρ k => u ρ fun d => w ρ fun ds => k (d :: ds)
variable {e : Expr} {es : List Expr} {u : UE} {w : UL}
theorem refNil : RefL K tNil uNil := fun ρ k h R W B H σ Q e q => q [] [] B H h e (Grow.refl _ _) .nil
theorem refCons {te : TE} {t : TA} (h1 : RefE K te u) (h2 : RefL K t w) : RefL K (tCons te t) (uCons u w) := by
  intro ρ k h R W B H σ Q e q
  refine h1 ρ _ h R W B H σ _ e fun d v B1 H1 z1 e1 g1 r1 => ?_
  refine h2 ρ _ z1 R W B1 H1 σ _ e1 fun ds vs B2 H2 z2 e2 g2 r2 => ?_
  exact q _ _ B2 H2 z2 e2 (g1.trans g2) (.cons (r1.mono g2.s) r2)
theorem l_nil : PL3 X [] uNil := ⟨_, pa_nil, refNil⟩
theorem l_cons (ha : PE3 X e u) (hr : PL3 X es w) (hs : starEach (e :: es) X.env = (false, eval e X.env) :: starEach es X.env := by rfl) : PL3 X (e :: es) (uCons u w) := by
  obtain ⟨_, h1, r1⟩ := ha; obtain ⟨_, h2, r2⟩ := hr
  exact ⟨_, pa_cons h1 h2 hs, refCons r1 r2⟩
def uTup (w : UL) : UE := fun ρ k => w ρ fun ds => ds.length ≤ sizeLine ∧ k (.tup ds)
theorem e_tup {x1} (h : PL3 X es w) : PE3 X (.Tuple es x1 pos) (uTup w) := by
  obtain ⟨_, h1, r1⟩ := h
  refine ⟨_, pe_tup h1, fun ρ k z R W B H σ Q e q => ?_⟩
  refine r1 ρ _ z R W B H σ _ e fun ds vs B1 H1 z1 e1 g1 s1 => ?_
  refine ⟨by rw [s1.length]; exact z1.1, fun p hp => ?_⟩
  have g2 := e1.grow hp (.tup vs)
  exact q _ _ _ _ z1.2 (e1.alloc hp _) (g1.trans g2) (.tup upd_same (s1.mono g2.s))
def uLst (w : UL) : UL := fun ρ k => w ρ fun ds => ds.length ≤ sizeLine ∧ k ds
theorem o_lst (h : PL3 X es w) : PO3 X (.List es pos) (uLst w) := by
  obtain ⟨_, h1, r1⟩ := h
  refine ⟨_, pe_lst h1, fun ρ k z R W B H σ Q e q => ?_⟩
  refine r1 ρ _ z R W B H σ _ e fun ds vs B1 H1 z1 e1 g1 s1 => ?_
  refine ⟨by rw [s1.length]; exact z1.1, fun p hp => ?_⟩
  obtain ⟨f1, f2, f3⟩ := e1.toWd.fresh hp
  exact q ds p vs B1 _ z1.2 (e1.allocH hp _) g1 f1 f3 upd_same s1 fun i m => e1.notNew hp m rfl
def uFr (w : UL) : UE := fun ρ k => w ρ fun ds => k (.lst ds)
theorem refFr {t : TE} (h : RefO K t w) : RefE K t (uFr w) := by
  intro ρ k z R W B H σ Q e q
  refine h ρ _ z R W B H σ _ e fun ds a vs B1 H1 z1 e1 g1 hr hb hh rp hm => ?_
  obtain ⟨e2, g2⟩ := e1.freeze hh hr hb hm
  exact q _ _ _ _ z1 e2 (g1.trans g2) (.lst upd_same (rp.mono g2.s))
theorem o_e (h : PO3 X e w) : PE3 X e (uFr w) := by
  obtain ⟨_, h1, r1⟩ := h
  exact ⟨_, h1, refFr r1⟩
/-! ### items -/
def uIx (ua ub : UE) : UE := fun ρ k => ua ρ fun x => ub ρ fun y => ∃ ds i d, (x = .tup ds ∨ x = .lst ds) ∧ y = .int i ∧ atI ds i = some d ∧ k d
theorem atI_reps {B : Hp} {vs : List V} {ds : List D} {i : Int} {d : D} (r : Reps K B vs ds) (h : atI ds i = some d) : ∃ v, atI vs i = some v ∧ Rep K B v d := by
  unfold atI at h ⊢
  rw [r.length]
  cases q : ixN ds.length i with
  | none => rw [q] at h; cases h
  | some j =>
    rw [q] at h
    exact r.get h
theorem e_ix (ha : PE3 X a ua) (hb : PE3 X b ub) (hs : PlainIx b) : PE3 X (.Subscript a b pos) (uIx ua ub) := by
  obtain ⟨_, h1, r1⟩ := ha; obtain ⟨_, h2, r2⟩ := hb
  refine ⟨_, pe_ix ix_any h1 h2 hs, ref2 r1 r2 fun x y k h R W B H σ ρ v w' Q e rx ry q => ?_⟩
  obtain ⟨ds, i, d, hx, rfl, ha, hk⟩ := h
  rcases hx with rfl | rfl
  · obtain ⟨p, vs, rfl, hp, rp⟩ := rx.tupV
    obtain ⟨z, hz, rz⟩ := atI_reps rp ha
    exact ⟨p, vs, i, z, rfl, ry.intV, .inl (e.bh _ _ hp), hz, q d z B H hk e (Grow.refl _ _) rz⟩
  · obtain ⟨p, vs, rfl, hp, rp⟩ := rx.lstV
    obtain ⟨z, hz, rz⟩ := atI_reps rp ha
    exact ⟨p, vs, i, z, rfl, ry.intV, .inr (e.bh _ _ hp), hz, q d z B H hk e (Grow.refl _ _) rz⟩
/-- an item of one's own list in slot n -/
def uIxO (n : Nat) (ub : UE) : UE := fun ρ k => ∃ ds : List D, ρ[n]? = some (.own ds) ∧ ub ρ fun y => ∃ i d, y = .int i ∧ atI ds i = some d ∧ k d
theorem e_ixO (n : Nat) {x : Str} {px : Pos} (hb : PE3 X b ub) (hs : PlainIx b) (hN : X.N[n]? = some x := by rfl) (hv : Vis X.env.scope x := by first | exact Or.inl rfl | exact Or.inr (Or.inl rfl) | exact Or.inr (Or.inr rfl)) (hd : (x == ("__debug__" : Str)) = false := by decide)
    (hcd : (x == ("__classdict__" : Str)) = false := by decide) : PE3 X (.Subscript (.Name x px) b pos) (uIxO n ub) := by
  obtain ⟨_, h2, r2⟩ := hb
  refine ⟨_, pe_ix ix_any (pe_var hN hv hd hcd) h2 hs, fun ρ k z R W B H σ Q e q => ?_⟩
  obtain ⟨ds, ho, z⟩ := z
  obtain ⟨p, vs, e1, e2, e3, e4, e5⟩ := e.ownAt ho
  refine ⟨_, e1, ?_⟩
  refine r2 ρ _ z R W B H σ _ e fun y v B1 H1 z1 f1 g1 s1 => ?_
  obtain ⟨i, d, rfl, ha, hk⟩ := z1
  obtain ⟨p', vs', f1', f2, f3, f4, f5⟩ := f1.ownAt ho
  rw [e1] at f1'; cases f1'
  obtain ⟨z, hz, rz⟩ := atI_reps f5 ha
  exact ⟨p, vs', i, z, rfl, s1.intV, .inr f4, hz, q d z B1 H1 hk f1 g1 rz⟩
end
end L3

/-! Calls, built-in functions, statements, loops, comprehensions, defs, over trees. -/
namespace L3
open PySem L2
open PySem.Builtin.Int (intBits)
/-! ### what a def promises over trees -/
abbrev FS := List Sl → (Sl → Prop) → Prop
def bags : List Sl → Nat
  | [] => 0
  | .bag :: r => bags r + 1
  | _ :: r => bags r
inductive ArgsIn (K : PySem.W.Frag) (W : Addr → Prop) (B : Hp) : List V → List Sl → Prop where
  | nil : ArgsIn K W B [] []
  | val {v : V} {d : D} {vs : List V} {as : List Sl} (h : Rep K B v d) (r : ArgsIn K W B vs as) : ArgsIn K W B (v :: vs) (.val d :: as)
  | bag {b : Addr} {vs : List V} {as : List Sl} (h : W b) (r : ArgsIn K W B vs as) : ArgsIn K W B (.ref b :: vs) (.bag :: as)
structure Exit (K : PySem.W.Frag) (W : Addr → Prop) (B H : Hp) (v : V) (r : Sl) (B' H' : Hp) : Prop where
  wd : Wd H W B' H'
  g : Grow H B B'
  res : ResOk K H B' H' v r
def Con (K : PySem.W.Frag) (n : Nat) (F : FS) : Sp := fun vs H Q _ => ∃ (W : Addr → Prop) (B : Hp) (as : List Sl) (k : Sl → Prop), F as k ∧ as.length = n ∧ Nat.ble (bags as) 1 = true ∧ Same B H ∧ (∀ a, W a → B a = none ∧ Bag H a) ∧ ArgsIn K W B vs as ∧
  ∀ r v B' H', k r → Exit K W B H v r B' H' → Q v H'
section
variable {K : PySem.W.Frag} {R : Hp} {W : Addr → Prop} {B B' H H' : Hp} {σ : St} {ρ : List Sl}
theorem ArgsIn.length : ∀ {vs : List V} {as : List Sl}, ArgsIn K W B vs as → vs.length = as.length
  | _, _, .nil => rfl
  | _, _, .val _ r => by rw [List.length_cons, List.length_cons, r.length]
  | _, _, .bag _ r => by rw [List.length_cons, List.length_cons, r.length]
theorem ArgsIn.get : ∀ {vs : List V} {as : List Sl}, ArgsIn K W B vs as → ∀ (i : Nat) (k : Sl), as[i]? = some k → (∃ v d, vs[i]? = some v ∧ k = .val d ∧ Rep K B v d) ∨ (∃ b, vs[i]? = some (.ref b) ∧ k = .bag ∧ W b)
  | _, _, .nil, i, k, e => by simp at e
  | _, _, .val h r, 0, k, e => by simp at e; subst e; exact .inl ⟨_, _, rfl, rfl, h⟩
  | _, _, .val h r, i + 1, k, e => by simpa using r.get i k (by simpa using e)
  | _, _, .bag h r, 0, k, e => by simp at e; subst e; exact .inr ⟨_, rfl, rfl, h⟩
  | _, _, .bag h r, i + 1, k, e => by simpa using r.get i k (by simpa using e)
theorem bags_none : ∀ {as : List Sl} {i : Nat}, bags as = 0 → as[i]? ≠ some .bag
  | [], i, _ => by simp
  | .bag :: r, i, h => by simp [bags] at h
  | .no :: r, 0, h => by simp
  | .no :: r, i + 1, h => by simpa using bags_none (as := r) (i := i) h
  | .val d :: r, 0, h => by simp
  | .val d :: r, i + 1, h => by simpa using bags_none (as := r) (i := i) h
  | .new d :: r, 0, h => by simp
  | .new d :: r, i + 1, h => by simpa using bags_none (as := r) (i := i) h
  | .pin v d :: r, 0, h => by simp
  | .pin v d :: r, i + 1, h => by simpa using bags_none (as := r) (i := i) h
  | .own d :: r, 0, h => by simp
  | .own d :: r, i + 1, h => by simpa using bags_none (as := r) (i := i) h
  | .deep d :: r, 0, h => by simp
  | .deep d :: r, i + 1, h => by simpa using bags_none (as := r) (i := i) h
theorem bags_one : ∀ {as : List Sl} {i j : Nat}, bags as ≤ 1 → as[i]? = some .bag → as[j]? = some .bag → i = j
  | [], i, j, _, e, _ => by simp at e
  | .bag :: r, 0, 0, _, _, _ => rfl
  | .bag :: r, 0, j + 1, h, _, e => absurd (by simpa using e) (bags_none (as := r) (i := j) (by simp [bags] at h; exact h))
  | .bag :: r, i + 1, _, h, e, _ => absurd (by simpa using e) (bags_none (as := r) (i := i) (by simp [bags] at h; exact h))
  | .no :: r, 0, _, _, e, _ => by simp at e
  | .no :: r, i + 1, 0, _, _, e => by simp at e
  | .no :: r, i + 1, j + 1, h, e, e' => by rw [bags_one (as := r) (i := i) (j := j) h (by simpa using e) (by simpa using e')]
  | .val d :: r, 0, _, _, e, _ => by simp at e
  | .val d :: r, i + 1, 0, _, _, e => by simp at e
  | .val d :: r, i + 1, j + 1, h, e, e' => by rw [bags_one (as := r) (i := i) (j := j) h (by simpa using e) (by simpa using e')]
  | .new d :: r, 0, _, _, e, _ => by simp at e
  | .new d :: r, i + 1, 0, _, _, e => by simp at e
  | .new d :: r, i + 1, j + 1, h, e, e' => by rw [bags_one (as := r) (i := i) (j := j) h (by simpa using e) (by simpa using e')]
  | .pin v d :: r, 0, _, _, e, _ => by simp at e
  | .pin v d :: r, i + 1, 0, _, _, e => by simp at e
  | .pin v d :: r, i + 1, j + 1, h, e, e' => by rw [bags_one (as := r) (i := i) (j := j) h (by simpa using e) (by simpa using e')]
  | .own d :: r, 0, _, _, e, _ => by simp at e
  | .own d :: r, i + 1, 0, _, _, e => by simp at e
  | .own d :: r, i + 1, j + 1, h, e, e' => by rw [bags_one (as := r) (i := i) (j := j) h (by simpa using e) (by simpa using e')]
  | .deep d :: r, 0, _, _, e, _ => by simp at e
  | .deep d :: r, i + 1, 0, _, _, e => by simp at e
  | .deep d :: r, i + 1, j + 1, h, e, e' => by rw [bags_one (as := r) (i := i) (j := j) h (by simpa using e) (by simpa using e')]
/-- behind a call: what the caller holds -/
theorem Ev.after {W' : Addr → Prop} (e : Ev K R W B H σ ρ) (hW : ∀ a, W' a → ∃ i : Nat, σ[i]? = some (some (.ref a)) ∧ ρ[i]? = some .bag) (wd : Wd H W' B' H') (g : Grow H B B') : Ev K R W B' H' σ ρ ∧ Grow R B B' := by
  have nb : ∀ a, B a = none → H a ≠ none → B' a = none := fun a h1 h2 => by
    cases q : B' a with
    | none => rfl
    | some o =>
      rcases g.n a o q with z | z
      · rw [h1] at z; cases z
      · exact absurd z h2
  have st : ∀ a, ¬ W' a → H a ≠ none → H' a = H a := fun a h1 h2 => by
    cases q : H a with
    | none => exact absurd q h2
    | some o => exact wd.fr a o q h1
  have bagS : ∀ a, Bag H a → Bag H' a := fun a h => by
    by_cases z : W' a
    · exact wd.wh a z
    · obtain ⟨x, y, e1, q⟩ := h
      exact ⟨x, y, by rw [st a z (by rw [e1]; simp)]; exact e1, q⟩
  have bagN : ∀ a, Bag H a → H a ≠ none := fun a ⟨x, y, e1, _⟩ => by rw [e1]; simp
  refine ⟨e.move ⟨fun a o h nw => ?_, wd.bh, fun a h => nb a (e.wb a h) (bagN a (e.wh a h)), fun a h => bagS a (e.wh a h), e.wr⟩ g.s (fun i a m => ⟨nb a (e.mutOk m).1 (e.mutOk m).2, fun z => ?_, fun z => ?_⟩), ⟨g.s, fun a o h => ?_⟩⟩
  · have h1 := e.fr a o h nw
    refine wd.fr a o h1 fun z => ?_
    obtain ⟨i, z1, z2⟩ := hW a z
    obtain ⟨b, y1, y2, _⟩ := e.bagAt z2
    rw [z1] at y1; cases y1
    rcases y2 with y2 | y2
    · exact nw y2
    · rw [y2] at h; cases h
  · obtain ⟨b, y1, _, _, y4⟩ := e.bagAt z
    rw [mut_bag m z] at y1; cases y1
    exact bagS _ y4
  · refine st a (fun q => ?_) (e.mutOk m).2
    obtain ⟨j, z1, z2⟩ := hW a q
    have := e.sep i j a m (.inl ⟨z1, .inl z2⟩)
    subst this
    exact z z2
  · rcases g.n a o h with z | z
    · exact .inl z
    · exact .inr (e.toWd.fresh z).1
/-- a def's own state at its entry -/
theorem Ev.start {N : List Str} {vs : List V} {as : List Sl} (hb : bags as ≤ 1) (sB : Same B H) (hw : ∀ a, W a → B a = none ∧ Bag H a) (ai : ArgsIn K W B vs as) : Ev K H W B H (L2.start N vs) (as ++ List.replicate (N.length - as.length) .no) := by
  have hl := ai.length
  have wd : Wd H W B H := ⟨fun _ _ h _ => h, sB, fun a h => (hw a h).1, fun a h => (hw a h).2, fun a h => by obtain ⟨x, y, q, _⟩ := (hw a h).2; rw [q]; simp⟩
  have lo : ∀ i k, as[i]? = some k → (L2.start N vs)[i]? = (vs[i]?).map some := fun i k h => by
    have lt : i < as.length := by
      by_cases z : i < as.length
      · exact z
      · rw [List.getElem?_eq_none (by omega)] at h; cases h
    unfold L2.start
    rw [List.getElem?_append_left (by rw [List.length_map]; omega), List.getElem?_map]
  have cs : ∀ (i : Nat) (k : Sl), (as ++ List.replicate (N.length - as.length) Sl.no)[i]? = some k → as[i]? = some k ∨ k = Sl.no := fun i k h => by
    by_cases z : i < as.length
    · rw [List.getElem?_append_left z] at h; exact .inl h
    · rw [List.getElem?_append_right (by omega)] at h
      rw [List.getElem?_replicate] at h
      split at h
      · exact .inr (Option.some.inj h).symm
      · cases h
  have bg : ∀ i : Nat, (as ++ List.replicate (N.length - as.length) Sl.no)[i]? = some Sl.bag → as[i]? = some Sl.bag := fun i h => by
    rcases cs i _ h with h | h
    · exact h
    · cases h
  refine ⟨wd, by unfold L2.start; simp [hl], fun i k h => ?_, fun i j a m1 m2 => ?_⟩
  · rcases cs i k h with h | rfl
    · rw [lo i k h]
      rcases ai.get i k h with ⟨v, d, h1, rfl, r⟩ | ⟨b, h1, rfl, r⟩
      · rw [h1]; exact ⟨v, rfl, r⟩
      · rw [h1]; exact ⟨b, rfl, .inl r, (hw b r).1, (hw b r).2⟩
    · trivial
  · have one : ∀ i, MutAt (L2.start N vs) (as ++ List.replicate (N.length - as.length) Sl.no) i a → as[i]? = some .bag := fun i m => by
      rcases m with ⟨_, z | ⟨ds, z⟩⟩ | ⟨c, z, _⟩
      · exact bg i z
      · rcases cs i _ z with z | z
        · rcases ai.get i _ z with ⟨v, d, _, q, _⟩ | ⟨b, _, q, _⟩ <;> cases q
        · cases z
      · rcases cs i _ z with z | z
        · rcases ai.get i _ z with ⟨v, d, _, q, _⟩ | ⟨b, _, q, _⟩ <;> cases q
        · cases z
    exact bags_one hb (one i m1) (one j m2)
/-- THE RULE for a def over trees -/
theorem def3 {P : Program} {w : World} {mg : Str → Option Value} {base : Heap} {x : Str} {st : Stmt} {N ps : List Str} {lv n : Nat} {F : FS} (Fd : Fnd K mg x st ps) (S : FnScope N ps (defScope st)) (hn : ps.length = n)
    (hbody : ∀ (f : Addr) (cdv : Value) (A : Around) (outer : List PySem.Env) (s : Shared) (H : Hp) (E : XK), Room lv (A.deeper (PyProof.Rows.envOfC x (defScope st) s.heap.objs.size f cdv)) →
      ∃ u, PSs3 (cxOf CX0 P w K mg base N x (defScope st) f cdv A outer s H E).nox (defBody st) u ∧ ∀ as k, as.length = n → F as k → u { nx := fun _ => k (.val .non), rt := k } (as ++ List.replicate (N.length - n) .no)) : Cal P w K mg base x ps (lv + 1) (Con K n F) := by
  refine Fd.ok S (fun vs H Q E h => ?_) (fun f cdv A outer s H vs Q E hr h => ?_)
  · obtain ⟨W, B, as, k, _, hl, _, _, _, ai, _⟩ := h
    rw [ai.length, hl, hn]
  · obtain ⟨W, B, as, k, hF, hl, hb, sB, hw, ai, q⟩ := h
    obtain ⟨u, ⟨t, ht, rt⟩, hu⟩ := hbody f cdv A outer s H E hr
    have ev := Ev.start (N := N) (Nat.le_of_ble_eq_true hb) sB hw ai
    rw [hl] at ev
    refine ⟨t, ht, rt _ _ (hu as k hl hF) H W B H (L2.start N vs) _ ev ⟨fun ρ σ B' H' h e g => ?_, fun _ _ _ _ h => h.elim, fun _ _ _ _ h => h.elim, fun r v B' H' h e g z => q r v B' H' h ⟨e, g, z⟩⟩⟩
    exact q _ _ B' H' h ⟨e.toWd, g, .non⟩
end
/-! ### calls -/
def Arg.sl : Arg → Sl
  | .val d => .val d
  | .bag _ => .bag
@[reducible] def fzR : Sl → (D → Prop) → Prop
  | .val d, k => k d
  | .own (.l ds), k => k (.lst ds)
  | .new d, k => k d
  | _, _ => False
def uaNil : UA := fun _ k => k []
def uaV (u : UE) (w : UA) : UA := fun ρ k => u ρ fun d => w ρ fun as => k (.val d :: as)
def uaB (i : Nat) (w : UA) : UA := fun ρ k => ρ[i]? = some .bag ∧ w ρ fun as => k (.bag i :: as)
def sh (as : List Arg) (n : Nat) : Bool := Nat.beq as.length n && Nat.ble (bags (as.map Arg.sl)) 1
def uCall (n : Nat) (F : FS) (w : UA) : UE := fun ρ k => w ρ fun as => sh as n = true ∧ F (as.map Arg.sl) fun r => fzR r k
section
variable {K : PySem.W.Frag} {X : Cx} {e : Expr} {es : List Expr} {u : UE} {w : UA} {pos p : Pos} {n : Nat} {F : FS}
theorem a_nil : PA3 X [] uaNil := ⟨_, pa_nil, fun ρ k h R W B H σ Q e q => q [] [] B H h e (Grow.refl _ _) .nil⟩
theorem a_val (ha : PE3 X e u) (hr : PA3 X es w) (hs : starEach (e :: es) X.env = (false, eval e X.env) :: starEach es X.env := by rfl) : PA3 X (e :: es) (uaV u w) := by
  obtain ⟨_, h1, r1⟩ := ha; obtain ⟨_, h2, r2⟩ := hr
  refine ⟨_, pa_cons h1 h2 hs, fun ρ k h R W B H σ Q e q => ?_⟩
  refine r1 ρ _ h R W B H σ _ e fun d v B1 H1 z1 e1 g1 s1 => ?_
  refine r2 ρ _ z1 R W B1 H1 σ _ e1 fun as vs B2 H2 z2 e2 g2 s2 => ?_
  exact q _ _ B2 H2 z2 e2 (g1.trans g2) (.val (s1.mono g2.s) s2)
theorem a_bag (i : Nat) {x : Str} {px : Pos} (hr : PA3 X es w) (hN : X.N[i]? = some x := by rfl) (hv : Vis X.env.scope x := by first | exact Or.inl rfl | exact Or.inr (Or.inl rfl) | exact Or.inr (Or.inr rfl)) (hd : (x == ("__debug__" : Str)) = false := by decide)
    (hcd : (x == ("__classdict__" : Str)) = false := by decide) (hs : starEach (.Name x px :: es) X.env = (false, eval (.Name x px) X.env) :: starEach es X.env := by rfl) : PA3 X (.Name x px :: es) (uaB i w) := by
  obtain ⟨_, h2, r2⟩ := hr
  refine ⟨_, pa_cons (pe_var hN hv hd hcd) h2 hs, fun ρ k h R W B H σ Q e q => ?_⟩
  obtain ⟨hb, h⟩ := h
  obtain ⟨b, b1, b2⟩ := e.bagAt hb
  refine ⟨_, b1, ?_⟩
  refine r2 ρ _ h R W B H σ _ e fun as vs B2 H2 z2 e2 g2 s2 => ?_
  exact q _ _ B2 H2 z2 e2 g2 (.bag b1 hb s2)
theorem ArgsOk.toIn {B : Hp} {σ : St} {ρ : List Sl} {W : Addr → Prop} {R H : Hp} {W0 : Addr → Prop} (e : Ev K R W0 B H σ ρ) : ∀ {vs : List V} {as : List Arg}, ArgsOk K B σ ρ vs as → (∀ i b, Arg.bag i ∈ as → σ[i]? = some (some (.ref b)) → W b) → ArgsIn K W B vs (as.map Arg.sl)
  | _, _, .nil, _ => .nil
  | _, _, .val h r, hw => .val h (ArgsOk.toIn e r fun i b m => hw i b (List.mem_cons_of_mem _ m))
  | _, _, .bag h hb r, hw => by
    obtain ⟨b, b1, _⟩ := e.bagAt hb
    rw [h] at b1; cases b1
    exact .bag (hw _ b List.mem_cons_self h) (ArgsOk.toIn e r fun i c m => hw i c (List.mem_cons_of_mem _ m))
theorem ArgsOk.bagIn {B : Hp} {σ : St} {ρ : List Sl} : ∀ {vs : List V} {as : List Arg} {i : Nat}, ArgsOk K B σ ρ vs as → Arg.bag i ∈ as → ρ[i]? = some .bag
  | _, _, _, .nil, m => by simp at m
  | _, _, _, .val h r, m => by
    rcases List.mem_cons.mp m with m | m
    · cases m
    · exact r.bagIn m
  | _, _, _, .bag h hb r, m => by
    rcases List.mem_cons.mp m with m | m
    · cases m; exact hb
    · exact r.bagIn m
/-- the call as such: whatever comes back -/
theorem call_ok {R : Hp} {W : Addr → Prop} {B H : Hp} {σ : St} {ρ : List Sl} {vs : List V} {as : List Arg} {k : Sl → Prop} {Q : VK} {E : XK} (e : Ev K R W B H σ ρ) (ok : ArgsOk K B σ ρ vs as) (hs : sh as n = true) (hF : F (as.map Arg.sl) k)
    (q : ∀ r v B' H', k r → Ev K R W B' H' σ ρ → Grow R B B' → ResOk K H B' H' v r → Q v H') : Con K n F vs H Q E := by
  rw [sh, Bool.and_eq_true] at hs
  have h1 : as.length = n := Nat.eq_of_beq_eq_true hs.1
  have hW : ∀ a, (∃ i : Nat, Arg.bag i ∈ as ∧ σ[i]? = some (some (.ref a))) → ∃ i : Nat, σ[i]? = some (some (.ref a)) ∧ ρ[i]? = some .bag := fun a ⟨i, m, z⟩ => ⟨i, z, ok.bagIn m⟩
  refine ⟨fun a => ∃ i : Nat, Arg.bag i ∈ as ∧ σ[i]? = some (some (.ref a)), B, as.map Arg.sl, k, hF, by rw [List.length_map]; exact h1, hs.2, e.bh, fun a h => ?_, ok.toIn e fun i b m z => ⟨i, m, z⟩, fun r v B' H' hk ex => ?_⟩
  · obtain ⟨i, z1, z2⟩ := hW a h
    obtain ⟨b, b1, _, b3, b4⟩ := e.bagAt z2
    rw [z1] at b1; cases b1
    exact ⟨b3, b4⟩
  · obtain ⟨e2, g2⟩ := e.after hW ex.wd ex.g
    exact q r v B' H' hk e2 g2 ex.res
theorem e_call {x : Str} {ps : List Str} {j lv : Nat} (c : Cal X.prog X.w X.K X.mg X.base x ps j (Con X.K n F)) (hr : Room lv X.A) (hg : Gl X x) (ha : PA3 X (e :: es) w) (hjk : j ≤ lv := by decide)
    (hdb : (x == ("__debug__" : Str)) = false := by decide) (he : starEach (e :: es) X.env = (false, eval e X.env) :: starEach es X.env := by rfl) (hpl : (backTo pos (starEach es X.env)).any (·.1) = false := by rfl) :
    PE3 X (.Call (.Name x p) (e :: es) [] pos) (uCall n F w) := by
  obtain ⟨_, h1, r1⟩ := ha
  refine ⟨_, pe_cal c hr hg h1 hjk hdb he hpl, fun ρ k h R W B H σ Q e q => ?_⟩
  refine r1 ρ _ h R W B H σ _ e fun as vs B1 H1 z1 e1 g1 s1 => ?_
  rw [List.append_nil]
  refine call_ok e1 s1 z1.1 z1.2 fun r v B2 H2 hk e2 g2 res => ?_
  cases r with
  | no => exact hk.elim
  | bag => exact hk.elim
  | pin v d => exact hk.elim
  | deep c => exact hk.elim
  | val d => exact q d v B2 H2 hk e2 (g1.trans g2) res
  | new d => exact q d v B2 H2 hk e2 (g1.trans g2) (Rep.mono newL_sub res)
  | own c =>
    cases c with
    | d _ _ _ _ => exact hk.elim
    | l ds =>
    obtain ⟨a, rfl, f1, f2, us, f3, f4⟩ := res
    obtain ⟨e3, g3⟩ := e2.freeze f3 (e1.toWd.fresh f1).1 f2 fun i m => absurd f1 (by
      have m1 : MutAt σ ρ i a := m
      exact (e1.mutOk m1).2)
    exact q _ _ _ _ hk e3 ((g1.trans g2).trans g3) (.lst upd_same (f4.mono g3.s))
end
/-! ### built-in functions -/
def lenD : D → Option Nat
  | .tup ds => some ds.length
  | .lst ds => some ds.length
  | .scr ns => some ns.length
  | _ => none
def uLen (u : UE) : UE := fun ρ k => u ρ fun x => ∃ n, lenD x = some n ∧ k (.int n)
def uAbs (u : UE) : UE := fun ρ k => u ρ fun x => ∃ i, x = .int i ∧ k (.int (if i < 0 then -i else i))
section
variable {K : PySem.W.Frag} {X : Cx} {e : Expr} {es : List Expr} {u : UE} {pos p : Pos} {n : Nat}
/-- a built-in function of one value -/
theorem refCB1 {te : TE} {r : List V → Hp → VK → Prop} {f : D → (D → Prop) → Prop} (ha : RefE K te u)
    (hr : ∀ (x : D) (k : D → Prop), f x k → ∀ (R : Hp) (W : Addr → Prop) (B H : Hp) (σ : St) (ρ : List Sl) (v : V) (Q : VK), Ev K R W B H σ ρ → Rep K B v x → (∀ d v B' H', k d → Ev K R W B' H' σ ρ → Grow R B B' → Rep K B' v d → Q v H') → r [v] H Q) :
    RefE K (tCB r (tCons te tNil)) (fun ρ k => u ρ fun x => f x k) := by
  intro ρ k h R W B H σ Q e q
  refine ha ρ _ h R W B H σ _ e fun x v B1 H1 h1 e1 g1 r1 => ?_
  exact hr x k h1 R W B1 H1 σ ρ v Q e1 r1 fun d u B3 H3 h3 e3 g3 r3 => q d u B3 H3 h3 e3 (g1.trans g3) r3
theorem e_len (ha : PE3 X e u) (hg : Gl X "len") (hm : X.mg "len" = none) (hs : starEach [e] X.env = (false, eval e X.env) :: starEach [] X.env := by rfl) : PE3 X (.Call (.Name "len" p) [e] [] pos) (uLen u) := by
  obtain ⟨_, h1, r1⟩ := ha
  refine ⟨_, pe_callB call_len_seq hg hm PySem.boot_len (pa_cons h1 pa_nil hs) (by decide) (by decide) hs, refCB1 (f := fun x k => ∃ n, lenD x = some n ∧ k (.int n)) r1 fun x k h R W B H σ ρ v Q e rx q => ?_⟩
  obtain ⟨n, hn, hk⟩ := h
  cases x <;> first | (cases hn; done) | skip
  · obtain ⟨a, vs, rfl, ha, r⟩ := rx.tupV
    cases hn
    rw [← r.length] at hk
    exact ⟨a, vs, rfl, .inr (SqT.of (e.bh _ _ ha)), q _ _ B H hk e (Grow.refl _ _) (.int _)⟩
  · obtain ⟨a, vs, rfl, ha, r⟩ := rx.lstV
    cases hn
    rw [← r.length] at hk
    exact ⟨a, vs, rfl, .inl (SqL.of (e.bh _ _ ha)), q _ _ B H hk e (Grow.refl _ _) (.int _)⟩
  · obtain ⟨a, rfl, ha⟩ := rx.scrV
    cases hn
    refine ⟨a, _, rfl, .inl (e.bh.seq ha), ?_⟩
    rw [List.length_map]
    exact q _ _ B H hk e (Grow.refl _ _) (.int _)
theorem e_abs (ha : PE3 X e u) (hg : Gl X "abs") (hm : X.mg "abs" = none) (hs : starEach [e] X.env = (false, eval e X.env) :: starEach [] X.env := by rfl) : PE3 X (.Call (.Name "abs" p) [e] [] pos) (uAbs u) := by
  obtain ⟨_, h1, r1⟩ := ha
  refine ⟨_, pe_callB call_abs hg hm (by decide +kernel) (pa_cons h1 pa_nil hs) (by decide) (by decide) hs, refCB1 (f := fun x k => ∃ i, x = .int i ∧ k (.int (if i < 0 then -i else i))) r1 fun x k h R W B H σ ρ v Q e rx q => ?_⟩
  obtain ⟨i, rfl, hk⟩ := h
  exact ⟨i, by rw [rx.intV], q _ _ B H hk e (Grow.refl _ _) (.int _)⟩
end
end L3

/-! Statements, loops, comprehensions, lists of one's own, over trees. -/
namespace L3
open PySem L2
open PySem.Builtin.Int (intBits)
section
variable {K : PySem.W.Frag} {X : Cx} {e : Expr} {es : List Expr} {u : UE} {w : UL} {pos p : Pos}
/-! ### plain statements -/
def uNext : US := fun U ρ => U.nx ρ
def uSeq (s t : US) : US := fun U ρ => s { U with nx := t U } ρ
def uRet (u : UE) : US := fun U ρ => u ρ fun d => U.rt (.val d)
def uSet (i : Nat) (u : UE) : US := fun U ρ => u ρ fun d => U.nx (ρ.set i (.val d))
def uSetO (i : Nat) (w : UL) : US := fun U ρ => w ρ fun ds => U.nx (ρ.set i (.own ds))
def uIf (c : UT) (s t : US) : US := fun U ρ => c ρ fun b => if b = true then s U ρ else t U ρ
/-- a list of one's own goes over to what stays -/
def uFz (i : Nat) (s : US) : US := fun U ρ => ∃ ds : List D, ρ[i]? = some (.own ds) ∧ s U (ρ.set i (.val (.lst ds)))
theorem s_nil : PSs3 X [] uNext := ⟨_, pss_nil, fun U ρ h R W B H σ D e s => s.nx ρ σ B H h e (Grow.refl _ _)⟩
theorem s_one {st : Stmt} {s : US} (h : PS3 X st s) : PSs3 X [st] s := by
  obtain ⟨_, h1, r1⟩ := h
  exact ⟨_, pss_one h1, r1⟩
theorem s_cons {st : Stmt} {rest : List Stmt} {s t : US} (h : PS3 X st s) (h' : PSs3 X rest t) : PSs3 X (st :: rest) (uSeq s t) := by
  obtain ⟨_, h1, r1⟩ := h; obtain ⟨_, h2, r2⟩ := h'
  refine ⟨_, pss_cons h1 h2, fun U ρ h R W B H σ D e sm => ?_⟩
  exact r1 _ ρ h R W B H σ _ e ⟨fun ρ' σ' B' H' z e' g => r2 U ρ' z R W B' H' σ' D e' (sm.grow g), sm.bk, sm.ct, sm.rt⟩
theorem s_fz {st : List Stmt} {s : US} (i : Nat) (h : PSs3 X st s) : PSs3 X st (uFz i s) := by
  obtain ⟨_, h1, r1⟩ := h
  refine ⟨_, h1, fun U ρ h R W B H σ D e sm => ?_⟩
  obtain ⟨ds, ho, z⟩ := h
  obtain ⟨B', e', g⟩ := e.fz ho
  exact r1 U _ z R W B' H σ D e' (sm.grow g)
theorem s_never {st : Stmt} : PS3 X st (fun _ _ => False) := ⟨_, ps_never, fun U ρ h => h.elim⟩
theorem ss_never {st : List Stmt} : PSs3 X st (fun _ _ => False) := ⟨tNever, fun _ _ _ _ _ _ h => h.elim, fun U ρ h => h.elim⟩
theorem s_ret (h : PE3 X e u) : PS3 X (.Return (some e) pos) (uRet u) := by
  obtain ⟨_, h1, r1⟩ := h
  refine ⟨_, ps_ret h1, fun U ρ h R W B H σ D e s => ?_⟩
  exact r1 ρ _ h R W B H σ _ e fun d v B1 H1 z1 e1 g1 s1 => s.rt _ v B1 H1 z1 e1.toWd g1 s1
theorem s_set {i : Nat} {x : Str} {pos' : Pos} (hN : X.N.Nodup) (hi : X.N[i]? = some x) (hx : Loc X.env.scope x) (he : PE3 X e u) (hs : swapsWith e (some (.Name x pos')) pos.line X.env = pure false := by rfl) (hf : X.fn x = true ∨ X.env.scope.names.lookup x = some .local := by first | exact .inl rfl | exact .inr rfl | assumption) :
    PS3 X (.Assign [.Name x pos'] e pos) (uSet i u) := by
  obtain ⟨_, h1, r1⟩ := he
  refine ⟨_, ps_set hN hi hx h1 hs hf, fun U ρ h R W B H σ D e s => ?_⟩
  exact r1 ρ _ h R W B H σ _ e fun d v B1 H1 z1 e1 g1 s1 => s.nx _ _ B1 H1 z1 (e1.setV i s1) g1
theorem s_setO {i : Nat} {x : Str} {pos' : Pos} (hN : X.N.Nodup) (hi : X.N[i]? = some x) (hx : Loc X.env.scope x) (he : PO3 X e w) (hs : swapsWith e (some (.Name x pos')) pos.line X.env = pure false := by rfl) (hf : X.fn x = true ∨ X.env.scope.names.lookup x = some .local := by first | exact .inl rfl | exact .inr rfl | assumption) :
    PS3 X (.Assign [.Name x pos'] e pos) (uSetO i w) := by
  obtain ⟨_, h1, r1⟩ := he
  refine ⟨_, ps_set hN hi hx h1 hs hf, fun U ρ h R W B H σ D e s => ?_⟩
  exact r1 ρ _ h R W B H σ _ e fun ds a vs B1 H1 z1 e1 g1 f1 f2 f3 f4 f5 => s.nx _ _ B1 H1 z1 (e1.setO i f1 f2 f3 f4 fun j _ => f5 j) g1
theorem s_if {c : Expr} {a b : List Stmt} {uc : UT} {s t : US} (hc : PT3 X c uc) (ha : PSs3 X a s) (hb : PSs3 X b t) : PS3 X (.If c a b pos) (uIf uc s t) := by
  obtain ⟨_, h0, r0⟩ := hc; obtain ⟨_, h1, r1⟩ := ha; obtain ⟨_, h2, r2⟩ := hb
  refine ⟨_, ps_if h0 h1 h2, fun U ρ h R W B H σ D e sm => ?_⟩
  refine r0 ρ _ h R W B H σ _ e fun c B1 H1 z1 e1 g1 => ?_
  cases c with
  | true =>
    rw [if_pos rfl] at z1 ⊢
    exact r1 U ρ z1 R W B1 H1 σ D e1 (sm.grow g1)
  | false =>
    rw [if_neg Bool.false_ne_true] at z1 ⊢
    exact r2 U ρ z1 R W B1 H1 σ D e1 (sm.grow g1)
/-! ### targets -/
def ugName (i : Nat) : UG := fun d ρ k => k (ρ.set i (.val d))
def ugNil : UGs := fun ds ρ k => ds = [] ∧ k ρ
def ugCons (g : UG) (gs : UGs) : UGs := fun ds ρ k => ∃ d r, ds = d :: r ∧ g d ρ fun ρ' => gs r ρ' k
def ugTup (n : Nat) (gs : UGs) : UG := fun d ρ k => ∃ ds, d = .tup ds ∧ ds.length = n ∧ gs ds ρ k
def uAsg (u : UE) (g : UG) : US := fun U ρ => u ρ fun d => g d ρ U.nx
theorem g_name {i : Nat} {x : Str} (hN : X.N.Nodup) (hi : X.N[i]? = some x) (hx : Loc X.env.scope x) (hf : X.fn x = true ∨ X.env.scope.names.lookup x = some .local := by first | exact .inl rfl | exact .inr rfl | assumption) : PG3 X (.Name x pos) (ugName i) :=
  ⟨_, pg_name hN hi hx hf, fun d ρ k h R W B H σ v Q e r q => q _ _ h (e.setV i r) fun j a m => by
    exact (mut_setV m (by simp) (by simp) rfl).2⟩
theorem gs_nil : PGs3 X [] ugNil := ⟨_, pgs_nil, fun ds ρ k h R W B H σ vs Q e r q => by
  obtain ⟨rfl, h⟩ := h
  cases r
  exact ⟨rfl, q _ _ h e fun _ _ m => m⟩⟩
theorem gs_cons {g : UG} {gs : UGs} (h1 : PG3 X e g) (h2 : PGs3 X es gs) (hs : (assignEach (e :: es) X.env).map (·.2) = assign e X.env :: (assignEach es X.env).map (·.2) := by rfl) : PGs3 X (e :: es) (ugCons g gs) := by
  obtain ⟨_, h1, r1⟩ := h1; obtain ⟨_, h2, r2⟩ := h2
  refine ⟨_, pgs_cons h1 h2 hs, fun ds ρ k h R W B H σ vs Q e r q => ?_⟩
  obtain ⟨d, rr, rfl, h⟩ := h
  cases r with
  | cons rv rs =>
    refine ⟨_, _, rfl, r1 d ρ _ h R W B H σ _ _ e rv fun ρ' σ' z e' mm => ?_⟩
    exact r2 rr ρ' k z R W B H σ' _ _ e' rs fun ρ'' σ'' z2 e2 m2 => q ρ'' σ'' z2 e2 fun j a m => mm j a (m2 j a m)
theorem g_tup {k0 : Nat} {gs : UGs} {n : Nat} (hc : X.calm = true) (h : PGs3 X es gs) (hn : (assignEach es X.env).length = n := by rfl) (hst : (assignEach es X.env).findIdx? (·.1) = none := by rfl) : PG3 X (.Tuple es k0 pos) (ugTup n gs) := by
  obtain ⟨_, h1, r1⟩ := h
  refine ⟨_, pg_tup hc h1 hn hst, fun d ρ k h R W B H σ v Q e r q => ?_⟩
  obtain ⟨ds, rfl, hl, h⟩ := h
  obtain ⟨a, vs, rfl, ha, rs⟩ := r.tupV
  exact ⟨a, vs, rfl, SqT.of (e.bh _ _ ha), by rw [rs.length]; exact hl, r1 ds ρ k h R W B H σ vs Q e rs q⟩
theorem s_asg {tg : Expr} {g : UG} (he : PE3 X e u) (hg : PG3 X tg g) (hs : swapsWithSole [tg] e pos.line X.env = pure false := by rfl) (hw : swappedStores [tg] e X.env = pure none := by rfl)
    (h1 : (assignEach [tg] X.env).map (·.2) = [assign tg X.env] := by rfl) : PS3 X (.Assign [tg] e pos) (uAsg u g) := by
  obtain ⟨_, ha, r1⟩ := he; obtain ⟨_, hb, r2⟩ := hg
  refine ⟨_, ps_asg ha hb hs hw h1, fun U ρ h R W B H σ D e s => ?_⟩
  refine r1 ρ _ h R W B H σ _ e fun d v B1 H1 z1 e1 g1 s1 => ?_
  exact r2 d ρ _ z1 R W B1 H1 σ v _ e1 s1 fun ρ' σ' z2 e2 _ => s.nx _ _ B1 H1 z2 e2 g1
def uPar (i j : Nat) (w : UL) : US := fun U ρ => w ρ fun ds => ∃ x y, ds = [x, y] ∧ U.nx ((ρ.set i (.val x)).set j (.val y))
theorem s_par {i j : Nat} {x y : Str} {a b : Expr} {px py pt : Pos} {kt k2 pt2} (hc : X.calm = true) (hN : X.N.Nodup) (hi : X.N[i]? = some x) (hj : X.N[j]? = some y) (hij : i ≠ j)
    (hx : X.env.scope.names.lookup x = some .local) (hy : X.env.scope.names.lookup y = some .local) (ha : PL3 X [a, b] w)
    (hw : swappedStores [.Tuple [.Name x px, .Name y py] kt pt] (.Tuple [a, b] k2 pt2) X.env = pure (some [x, y]))
    (hs : swapsWithSole [.Tuple [.Name x px, .Name y py] kt pt] (.Tuple [a, b] k2 pt2) pos.line X.env = pure false := by rfl) :
    PS3 X (.Assign [.Tuple [.Name x px, .Name y py] kt pt] (.Tuple [a, b] k2 pt2) pos) (uPar i j w) := by
  obtain ⟨_, h1, r1⟩ := ha
  refine ⟨_, ps_par hc hN hi hj hij hx hy h1 hw hs, fun U ρ h R W B H σ D e s => ?_⟩
  refine r1 ρ _ h R W B H σ _ e fun ds vs B1 H1 z1 e1 g1 s1 => ?_
  obtain ⟨x, y, rfl, z1⟩ := z1
  cases s1 with
  | cons ra rb => cases rb with
    | cons rb rc =>
      cases rc
      exact ⟨_, _, rfl, s.nx _ _ B1 H1 z1 ((e1.setV i ra).setV j rb) g1⟩
/-! ### while -/
def uWhile (c : UT) (s : US) : US := fun U ρ => ∃ M : Nat → List Sl → Prop, (∃ m, M m ρ) ∧ ∀ m ρ, M m ρ → c ρ fun b => if b = true then s { U with nx := fun ρ' => ∃ m', m' < m ∧ M m' ρ', ct := fun ρ' => ∃ m', m' < m ∧ M m' ρ', bk := U.nx } ρ else U.nx ρ
theorem s_while {c : Expr} {body : List Stmt} {uc : UT} {s : US} (hp : PassesOwn (model X.prog X.w) X.A X.env X.xe) (hc : PT3 X c uc) (hb : PSs3 X body s) : PS3 X (.While c body [] pos) (uWhile uc s) := by
  obtain ⟨_, h0, r0⟩ := hc; obtain ⟨_, h1, r1⟩ := hb
  refine ⟨_, ps_while hp h0 h1, fun U ρ h R W B H σ D e sm => ?_⟩
  obtain ⟨M, ⟨m0, hm⟩, turn⟩ := h
  refine ⟨fun m σ' H' => ∃ ρ' B', M m ρ' ∧ Ev X.K R W B' H' σ' ρ' ∧ Grow R B B', ⟨m0, ρ, B, hm, e, Grow.refl _ _⟩, ?_⟩
  rintro m σ1 H1 ⟨ρ1, B1, hm1, e1, g1⟩
  refine r0 ρ1 _ (turn m ρ1 hm1) R W B1 H1 σ1 _ e1 fun b B2 H2 z2 e2 g2 => ?_
  cases b with
  | true =>
    rw [if_pos rfl] at z2 ⊢
    refine ⟨fun σ' H' => ∃ ρ' B', (∃ m', m' < m ∧ M m' ρ') ∧ Ev X.K R W B' H' σ' ρ' ∧ Grow R B B', ?_, ?_⟩
    · rintro σ' H' ⟨ρ', B', ⟨m', l, q⟩, e', g'⟩
      exact ⟨m', l, ρ', B', q, e', g'⟩
    · have gg := g1.trans g2
      exact r1 _ ρ1 z2 R W B2 H2 σ1 _ e2 ⟨fun ρ' σ' B' H' z e' g => ⟨ρ', B', z, e', gg.trans g⟩, fun ρ' σ' B' H' z e' g => sm.nx ρ' σ' B' H' z e' (gg.trans g), fun ρ' σ' B' H' z e' g => ⟨ρ', B', z, e', gg.trans g⟩, fun r v B' H' z e' g q => sm.rt r v B' H' z e' (gg.trans g) q⟩
  | false =>
    rw [if_neg Bool.false_ne_true] at z2 ⊢
    exact sm.nx ρ1 σ1 B2 H2 z2 e2 (g1.trans g2)
/-! ### what is walked, and for -/
theorem ItOk.list {B : Hp} {a : Addr} {vs : List V} {ds : List D} (h : B a = some (.lst vs)) (r : Reps K B vs ds) : ItOk K B (Itl K a) ds := by
  intro H s i
  have hH := s _ _ h
  have q : SqL K H a vs := SqL.of hH
  refine ⟨fun hi => ?_, fun hi => ⟨vs, q, by rw [r.length]; exact hi⟩, fun x H' hi ⟨e1, e2⟩ => ⟨e1, ?_⟩⟩
  · obtain ⟨v, e, _⟩ := r.get (List.getElem?_eq_getElem hi)
    exact ⟨vs, v, q, e⟩
  · exact r.getV (e2 vs q)
theorem ItOk.rng {B : Hp} (n : Nat) : ItOk K B (Itr 0 n) ((List.range n).map fun i : Nat => D.int i) := by
  intro H s i
  rw [List.length_map, List.length_range]
  refine ⟨fun hi => hi, fun hi => hi, fun x H' hi ⟨e1, e2⟩ => ⟨e1, ?_⟩⟩
  refine ⟨.int i, ?_, ?_⟩
  · rw [List.getElem?_map, List.getElem?_range hi]; rfl
  · rw [e2, Int.zero_add]; exact .int _
def uiL (u : UE) : UL := fun ρ k => u ρ fun d => ∃ ds, d = .lst ds ∧ k ds
def uiR (u : UE) : UL := fun ρ k => u ρ fun d => ∃ j, d = .int j ∧ -(2 ^ 62) ≤ j ∧ j < 2 ^ 62 ∧ k ((List.range j.toNat).map fun i : Nat => D.int i)
variable {tg : Expr}
theorem i_list {l : Expr} (hl : PE3 X l u) : PI3 X tg l (uiL u) := by
  obtain ⟨_, h1, r1⟩ := hl
  refine ⟨_, pi_list h1, fun ρ k h R W B H σ Q e q => ?_⟩
  refine r1 ρ _ h R W B H σ _ e fun d v B1 H1 z1 e1 g1 s1 => ?_
  obtain ⟨ds, rfl, z⟩ := z1
  obtain ⟨a, vs, rfl, ha, rs⟩ := s1.lstV
  exact ⟨a, rfl, ⟨vs, SqL.of (e1.bh _ _ ha)⟩, q ds _ B1 H1 z e1 g1 (ItOk.list ha rs)⟩
theorem i_rng {a : Expr} (ha : PE3 X a u) (hg : Gl X "range") (hm : X.mg "range" = none) (hs : starEach [a] X.env = [(false, eval a X.env)] := by rfl) : PI3 X tg (.Call (.Name "range" p) [a] [] pos) (uiR u) := by
  obtain ⟨_, h1, r1⟩ := ha
  refine ⟨_, pi_range1 hg hm (pa_cons h1 pa_nil (by exact hs)) hs, fun ρ k h R W B H σ Q e q => ?_⟩
  refine r1 ρ _ h R W B H σ _ e fun d v B1 H1 z1 e1 g1 s1 => ?_
  obtain ⟨j, rfl, j0, j1, z⟩ := z1
  exact ⟨j, by rw [s1.intV], j0, j1, q _ _ B1 H1 z e1 g1 (ItOk.rng _)⟩
/-- the turns, one behind another -/
def forR (g : UG) (s : US) (U : UEnds) : List D → List Sl → Prop
  | [], ρ => U.nx ρ
  | d :: ds, ρ => g d ρ fun ρ' => s { U with nx := forR g s U ds, ct := forR g s U ds, bk := U.nx } ρ'
def uFor (w : UL) (g : UG) (s : US) : US := fun U ρ => w ρ fun ds => forR g s U ds ρ
theorem s_for {iter : Expr} {body : List Stmt} {g : UG} {s : US} (hp : PassesOwn (model X.prog X.w) X.A X.env X.xe) (hc : X.calm = true) (hi : PI3 X tg iter w) (hg : PG3 X tg g) (hb : PSs3 X body s)
    (hs : ∀ x, foldedSetIterable iter X.env x = pure x := by intro _; rfl) : PS3 X (.For tg iter body [] pos) (uFor w g s) := by
  obtain ⟨_, h0, r0⟩ := hi; obtain ⟨_, h1, r1⟩ := hg; obtain ⟨_, h2, r2⟩ := hb
  refine ⟨_, ps_for hp hc h0 h1 h2 hs, fun U ρ h R W B H σ D e sm => ?_⟩
  refine r0 ρ _ h R W B H σ _ e fun ds J B1 H1 z1 e1 g1 it => ?_
  refine ⟨fun i m σ' H' => ∃ ρ' B', m = ds.length - i ∧ i ≤ ds.length ∧ forR g s U (ds.drop i) ρ' ∧ Ev X.K R W B' H' σ' ρ' ∧ Grow R B B' ∧ Same B1 B', ⟨ds.length, ρ, B1, by simp, Nat.zero_le _, z1, e1, g1, Same.refl _⟩, ?_⟩
  rintro i m σ1 H2 ⟨ρ1, B2, rfl, hi, z2, e2, g2, s2⟩
  obtain ⟨t1, t2, t3⟩ := it H2 (s2.trans e2.bh) i
  by_cases hlt : i < ds.length
  · refine .inr ⟨t1 hlt, fun σ' H' => ∃ ρ' B', forR g s U (ds.drop (i + 1)) ρ' ∧ Ev X.K R W B' H' σ' ρ' ∧ Grow R B B' ∧ Same B1 B', ?_, ?_⟩
    · rintro σ' H' ⟨ρ', B', z, e', g', s'⟩
      exact ⟨ds.length - (i + 1), by omega, ρ', B', rfl, hlt, z, e', g', s'⟩
    · intro x H' y
      obtain ⟨rfl, d, hd, rx⟩ := t3 x H' hlt y
      have ed : ds.drop i = d :: ds.drop (i + 1) := by
        rw [List.drop_eq_getElem_cons hlt]
        rw [List.getElem?_eq_getElem hlt] at hd
        rw [Option.some.inj hd]
      rw [ed] at z2
      refine r1 d ρ1 _ z2 R W B2 _ σ1 x _ e2 (rx.mono s2) fun ρ' σ' z' e' _ => ?_
      exact r2 _ ρ' z' R W B2 _ σ' _ e' ⟨fun ρ' σ' B' H' z e' g => ⟨ρ', B', z, e', g2.trans g, s2.trans g.s⟩, fun ρ' σ' B' H' z e' g => sm.nx ρ' σ' B' H' z e' (g2.trans g), fun ρ' σ' B' H' z e' g => ⟨ρ', B', z, e', g2.trans g, s2.trans g.s⟩, fun r v B' H' z e' g q => sm.rt r v B' H' z e' (g2.trans g) q⟩
  · have ei : i = ds.length := by omega
    subst ei
    rw [List.drop_length] at z2
    exact .inl ⟨t2 (Nat.le_refl _), sm.nx ρ1 σ1 B2 H2 z2 e2 g2⟩
end
end L3

/-! Lists over trees: slices, sums of lists, copies, append, items given, comprehensions, a new bag. -/
namespace L3
open PySem L2
open PySem.Builtin.Int (intBits)
section
variable {K : PySem.W.Frag} {X : Cx} {e : Expr} {es : List Expr} {u : UE} {w : UL} {pos p : Pos}
/-- a new list from values that are read -/
theorem Ev.newO {R : Hp} {W : Addr → Prop} {B H : Hp} {σ : St} {ρ : List Sl} (e : Ev K R W B H σ ρ) {q : Addr} (hq : H q = none) {vs : List V} {ds : List D} (r : Reps K B vs ds) :
    Ev K R W B (upd H q (.lst vs)) σ ρ ∧ R q = none ∧ B q = none ∧ (upd H q (.lst vs)) q = some (.lst vs) ∧ ∀ i, ¬ MutAt σ ρ i q := by
  obtain ⟨f1, f2, f3⟩ := e.toWd.fresh hq
  exact ⟨e.allocH hq _, f1, f3, upd_same, fun i m => e.notNew hq m rfl⟩
def cutL {α : Type} (xs : List α) (lo hi : Option Int) : List α := (xs.drop (HT.sIx xs.length 0 lo)).take (HT.sIx xs.length xs.length hi - HT.sIx xs.length 0 lo)
theorem Reps.cut {B : Hp} {vs : List V} {ds : List D} (r : Reps K B vs ds) (lo hi : Option Int) : Reps K B (cutL vs lo hi) (cutL ds lo hi) := by
  unfold cutL
  rw [r.length]
  exact (r.drop _).take _
/-- a slice's part -/
abbrev UP := List Sl → (Option Int → Prop) → Prop
def RefP (K : PySem.W.Frag) (t : TO) (u : UP) : Prop := ∀ (ρ : List Sl) (k : Option Int → Prop), u ρ k → ∀ (R : Hp) (W : Addr → Prop) (B H : Hp) (σ : St) (Q : Option Int → Hp → Prop), Ev K R W B H σ ρ →
  (∀ o B' H', k o → Ev K R W B' H' σ ρ → Grow R B B' → Q o H') → t σ H Q
def PP3 (X : Cx) (e : Option Expr) (u : UP) : Prop := ∃ t, PO X e t ∧ RefP X.K t u
def upN : UP := fun _ k => k none
def upS (u : UE) : UP := fun ρ k => u ρ fun d => ∃ i, d = .int i ∧ k (some i)
theorem p_none : PP3 X none upN := ⟨_, po_none, fun ρ k h R W B H σ Q e q => q none B H h e (Grow.refl _ _)⟩
theorem p_some (h : PE3 X e u) : PP3 X (some e) (upS u) := by
  obtain ⟨_, h1, r1⟩ := h
  refine ⟨_, po_some h1, fun ρ k h R W B H σ Q e q => ?_⟩
  refine r1 ρ _ h R W B H σ _ e fun d v B1 H1 z1 e1 g1 s1 => ?_
  obtain ⟨i, rfl, z⟩ := z1
  exact ⟨i, s1.intV, q _ B1 H1 z e1 g1⟩
/-- the items of a list that is read -/
def itemsD : D → Option (List D)
  | .lst ds => some ds
  | .scr ns => some (ns.map .int)
  | _ => none
theorem itemsD_ok {B H : Hp} {v : V} {x : D} {ds : List D} (s : Same B H) (r : Rep K B v x) (h : itemsD x = some ds) : ∃ a vs, v = .ref a ∧ SqL K H a vs ∧ Reps K B vs ds := by
  cases x <;> first | (cases h; done) | skip
  · obtain ⟨a, vs, rfl, ha, rs⟩ := r.lstV
    cases h
    exact ⟨a, vs, rfl, SqL.of (s _ _ ha), rs⟩
  · obtain ⟨a, rfl, ha⟩ := r.scrV
    cases h
    exact ⟨a, _, rfl, s.seq ha, Reps.ints _⟩
def uSl (u : UE) (l h : UP) : UL := fun ρ k => u ρ fun x => l ρ fun lo => h ρ fun hi => ∃ ds, itemsD x = some ds ∧ k (cutL ds lo hi)
theorem o_slice {lo hi : Option Expr} {ul uh : UP} {p2 : Pos} (he : PE3 X e u) (hl : PP3 X lo ul) (hh : PP3 X hi uh) : PO3 X (.Subscript e (.Slice lo hi none p2) pos) (uSl u ul uh) := by
  obtain ⟨_, h1, r1⟩ := he; obtain ⟨_, h2, r2⟩ := hl; obtain ⟨_, h3, r3⟩ := hh
  refine ⟨_, pe_slice sl_list h1 h2 h3, fun ρ k h R W B H σ Q e q => ?_⟩
  refine r1 ρ _ h R W B H σ _ e fun d v B1 H1 z1 e1 g1 s1 => ?_
  refine r2 ρ _ z1 R W B1 H1 σ _ e1 fun lo B2 H2 z2 e2 g2 => ?_
  refine r3 ρ _ z2 R W B2 H2 σ _ e2 fun hi B3 H3 z3 e3 g3 => ?_
  obtain ⟨ds, hd, z⟩ := z3
  obtain ⟨a, vs, rfl, ha, rs⟩ := itemsD_ok e3.bh (s1.mono (g2.trans g3).s) hd
  refine ⟨a, vs, rfl, ha, fun p hp => ?_⟩
  obtain ⟨f1, f2, f3, f4, f5⟩ := e3.newO hp (rs.cut lo hi)
  exact q _ p _ B3 _ z f1 ((g1.trans g2).trans g3) f2 f3 f4 (rs.cut lo hi) f5
def uCat (u v : UE) : UL := fun ρ k => u ρ fun x => v ρ fun y => ∃ ds es, x = .lst ds ∧ y = .lst es ∧ ds.length + es.length ≤ sizeLine ∧ k (ds ++ es)
theorem o_cat {a b : Expr} {ua ub : UE} (ha : PE3 X a ua) (hb : PE3 X b ub) : PO3 X (.BinOp a .Add b pos) (uCat ua ub) := by
  obtain ⟨_, h1, r1⟩ := ha; obtain ⟨_, h2, r2⟩ := hb
  refine ⟨_, pe_op op_cat h1 h2, fun ρ k h R W B H σ Q e q => ?_⟩
  refine r1 ρ _ h R W B H σ _ e fun d v B1 H1 z1 e1 g1 s1 => ?_
  refine r2 ρ _ z1 R W B1 H1 σ _ e1 fun d' v' B2 H2 z2 e2 g2 s2 => ?_
  obtain ⟨ds, es, rfl, rfl, hl, z⟩ := z2
  obtain ⟨a, vs, rfl, ha, rs⟩ := (s1.mono g2.s).lstV
  obtain ⟨b, ws, rfl, hb, rt⟩ := s2.lstV
  refine ⟨a, b, vs, ws, rfl, rfl, e2.bh _ _ ha, e2.bh _ _ hb, by rw [rs.length, rt.length]; exact hl, fun p hp => ?_⟩
  obtain ⟨f1, f2, f3, f4, f5⟩ := e2.newO hp (rs.append rt)
  exact q _ p _ B2 _ z f1 (g1.trans g2) f2 f3 f4 (rs.append rt) f5
/-! ### append, items given -/
def uApp (i : Nat) (u : UE) : US := fun U ρ => ∃ ds : List D, ρ[i]? = some (.own ds) ∧ u ρ fun d => ds.length < sizeLine ∧ U.nx (ρ.set i (.own (ds ++ [d])))
theorem s_app (i : Nat) {x : Str} {px apos cpos : Pos} (he : PE3 X e u) (hN : X.N[i]? = some x := by rfl) (hv : Vis X.env.scope x := by first | exact Or.inl rfl | exact Or.inr (Or.inl rfl) | exact Or.inr (Or.inr rfl)) (hd : (x == ("__debug__" : Str)) = false := by decide)
    (hcd : (x == ("__classdict__" : Str)) = false := by decide) (hbase : attributeBase (.Name x px) "append" X.env (eval (.Name x px) X.env) = eval (.Name x px) X.env := by rfl)
    (hfew : ((backTo cpos (starEach [e] X.env)).all (fun x => !x.1) && (backToKw cpos (keywordEach [] X.env)).all (fun x => x.1.isSome)
      && decide ([e].length + ([] : List Keyword).length + (if ([] : List Keyword).isEmpty then 0 else 1) < 30)) = true := by rfl)
    (hline : (apos.endLine == cpos.line) = true := by rfl) (hs : starEach [e] X.env = (false, eval e X.env) :: starEach [] X.env := by rfl) (hplain : (backTo cpos (starEach ([] : List Expr) X.env)).any (·.1) = false := by rfl)
    (hsw : swapsWith (.Call (.Attribute (.Name x px) "append" apos) [e] [] cpos) none pos.line X.env = pure false := by rfl) : PS3 X (.Expr (.Call (.Attribute (.Name x px) "append" apos) [e] [] cpos) pos) (uApp i u) := by
  obtain ⟨_, h1, r1⟩ := he
  refine ⟨_, ps_expr (pe_bm PySem.F.plainAttrs_list PySem.F.slot_list_append PySem.F.type_list_append mt_append (pe_var hN hv hd hcd) (pa_cons h1 pa_nil hs) hbase hfew hline hs hplain) hsw, fun U ρ h R W B H σ D e s => ?_⟩
  obtain ⟨ds, ho, h⟩ := h
  obtain ⟨a, vs, e1, e2, e3, e4, e5⟩ := e.ownAt ho
  refine ⟨_, e1, .inl ⟨rfl, vs, SqL.of e4⟩, ?_⟩
  refine r1 ρ _ h R W B H σ _ e fun d v B1 H1 z1 f1 g1 s1 => ?_
  obtain ⟨a', vs', k1, k2, k3, k4, k5⟩ := f1.ownAt ho
  rw [e1] at k1; cases k1
  exact ⟨a, vs', v, rfl, rfl, k4, by rw [k5.length]; exact z1.1, s.nx _ _ B1 _ z1.2 (f1.write e1 ho (k5.append (.cons s1 .nil))) g1⟩
def uPut (i : Nat) (uj u : UE) : US := fun U ρ => ∃ ds : List D, ρ[i]? = some (.own ds) ∧ u ρ fun d => uj ρ fun y => ∃ k j, y = .int k ∧ ixN ds.length k = some j ∧ U.nx (ρ.set i (.own (ds.set j d)))
theorem s_put (i : Nat) {x : Str} {px tpos : Pos} {ix : Expr} {uj : UE} (he : PE3 X e u) (hj : PE3 X ix uj) (hN : X.N[i]? = some x := by rfl) (hv : Vis X.env.scope x := by first | exact Or.inl rfl | exact Or.inr (Or.inl rfl) | exact Or.inr (Or.inr rfl)) (hd : (x == ("__debug__" : Str)) = false := by decide)
    (hcd : (x == ("__classdict__" : Str)) = false := by decide) (hg : ∀ {to ti : TE}, PE X (.Name x px) to → PE X ix ti → PG X (.Subscript (.Name x px) ix tpos) (gSub to ti rSetL) := by intro to ti a b; exact pg_sub a b set_list)
    (hs : swapsWithSole [.Subscript (.Name x px) ix tpos] e pos.line X.env = pure false := by rfl) (hw : swappedStores [.Subscript (.Name x px) ix tpos] e X.env = pure none := by rfl)
    (h1 : (assignEach [.Subscript (.Name x px) ix tpos] X.env).map (·.2) = [assign (.Subscript (.Name x px) ix tpos) X.env] := by rfl) : PS3 X (.Assign [.Subscript (.Name x px) ix tpos] e pos) (uPut i uj u) := by
  obtain ⟨_, ha, r1⟩ := he; obtain ⟨_, hb, r2⟩ := hj
  refine ⟨_, ps_asg ha (hg (pe_var hN hv hd hcd) hb) hs hw h1, fun U ρ h R W B H σ D e s => ?_⟩
  obtain ⟨ds, ho, h⟩ := h
  obtain ⟨a, vs, e1, e2, e3, e4, e5⟩ := e.ownAt ho
  refine r1 ρ _ h R W B H σ _ e fun d v B1 H1 z1 f1 g1 s1 => ?_
  refine ⟨_, e1, ?_⟩
  refine r2 ρ _ z1 R W B1 H1 σ _ f1 fun y v' B2 H2 z2 f2 g2 s2 => ?_
  obtain ⟨k, j, rfl, hk, z⟩ := z2
  obtain ⟨a', vs', k1, k2, k3, k4, k5⟩ := f2.ownAt ho
  rw [e1] at k1; cases k1
  exact ⟨a, vs', k, j, rfl, s2.intV, k4, by rw [k5.length]; exact hk, s.nx _ _ B2 _ z (f2.write e1 ho (k5.set (s1.mono g2.s) j)) (g1.trans g2)⟩
/-! ### comprehensions -/
def frS (ρ : List Sl) (j : Nat) : Sl := match ρ[j]? with
  | some (.val d) => .val d
  | some .bag => .bag
  | _ => .no
theorem Ev.scribble {R : Hp} {W : Addr → Prop} {B H : Hp} {σ : St} {ρ : List Sl} (e : Ev K R W B H σ ρ) {a : Addr} (hr : R a = none) (hb : B a = none) (hm : ∀ i, ¬ MutAt σ ρ i a) (o : HO) : Ev K R W B (upd H a o) σ ρ := by
  have nw : ¬ W a := fun z => e.wr a z hr
  refine e.move ⟨fun b q h z => ?_, fun b q h => ?_, e.wb, fun b z => (e.wh b z).upd (by rintro rfl; exact nw z), e.wr⟩ (Same.refl _) fun i b m => ?_
  · rw [upd_ne (by rintro rfl; rw [hr] at h; cases h)]; exact e.fr b q h z
  · rw [upd_ne (by rintro rfl; rw [hb] at h; cases h)]; exact e.bh b q h
  · have n : b ≠ a := by rintro rfl; exact hm i m
    refine ⟨(e.mutOk m).1, fun z => ?_, fun _ => upd_ne n⟩
    obtain ⟨c, c1, _, _, c4⟩ := e.bagAt z
    rw [mut_bag m z] at c1; cases c1
    exact c4.upd n
theorem freeV_get {σ : St} {js : List Nat} {i : Nat} {o : Option V} (h : (freeV σ js)[i]? = some o) : ∃ j, js[i]? = some j ∧ o = (σ[j]?).join := by
  unfold freeV at h
  rw [List.getElem?_map] at h
  cases q : js[i]? with
  | none => rw [q] at h; cases h
  | some j => rw [q] at h; exact ⟨j, rfl, (Option.some.inj h).symm⟩
/-! ### a new bag -/
def RefN (K : PySem.W.Frag) (t : TE) (u : List Sl → Prop → Prop) : Prop := ∀ (ρ : List Sl) (k : Prop), u ρ k → ∀ (R : Hp) (W : Addr → Prop) (B H : Hp) (σ : St) (Q : VK), Ev K R W B H σ ρ →
  (∀ a B' H', k → Ev K R W B' H' σ ρ → Grow R B B' → R a = none → B' a = none → Bag H' a → (∀ i, ¬ MutAt σ ρ i a) → Q (.ref a) H') → t σ H Q
def PN3 (X : Cx) (e : Expr) (u : List Sl → Prop → Prop) : Prop := ∃ t, PE X e t ∧ RefN X.K t u
def uCallN (n : Nat) (F : FS) (w : UA) : List Sl → Prop → Prop := fun ρ k => w ρ fun as => sh as n = true ∧ F (as.map Arg.sl) fun r => r = .bag ∧ k
theorem n_call {n : Nat} {F : FS} {w : UA} {x : Str} {ps : List Str} {j lv : Nat} (c : Cal X.prog X.w X.K X.mg X.base x ps j (Con X.K n F)) (hr : Room lv X.A) (hg : Gl X x) (ha : PA3 X (e :: es) w) (hjk : j ≤ lv := by decide)
    (hdb : (x == ("__debug__" : Str)) = false := by decide) (he : starEach (e :: es) X.env = (false, eval e X.env) :: starEach es X.env := by rfl) (hpl : (backTo pos (starEach es X.env)).any (·.1) = false := by rfl) :
    PN3 X (.Call (.Name x p) (e :: es) [] pos) (uCallN n F w) := by
  obtain ⟨_, h1, r1⟩ := ha
  refine ⟨_, pe_cal c hr hg h1 hjk hdb he hpl, fun ρ k h R W B H σ Q e q => ?_⟩
  refine r1 ρ _ h R W B H σ _ e fun as vs B1 H1 z1 e1 g1 s1 => ?_
  rw [List.append_nil]
  refine call_ok e1 s1 z1.1 z1.2 fun r v B2 H2 hk e2 g2 res => ?_
  obtain ⟨rfl, hk⟩ := hk
  obtain ⟨a, rfl, f1, f2, f3⟩ := res
  exact q a B2 H2 hk e2 (g1.trans g2) (e1.toWd.fresh f1).1 f2 f3 fun i m => (e1.mutOk m).2 f1
def uSetN (i : Nat) (u : List Sl → Prop → Prop) : US := fun U ρ => u ρ (U.nx (ρ.set i .bag))
theorem s_setN {i : Nat} {x : Str} {pos' : Pos} {u : List Sl → Prop → Prop} (hN : X.N.Nodup) (hi : X.N[i]? = some x) (hx : Loc X.env.scope x) (he : PN3 X e u) (hs : swapsWith e (some (.Name x pos')) pos.line X.env = pure false := by rfl) (hf : X.fn x = true ∨ X.env.scope.names.lookup x = some .local := by first | exact .inl rfl | exact .inr rfl | assumption) :
    PS3 X (.Assign [.Name x pos'] e pos) (uSetN i u) := by
  obtain ⟨_, h1, r1⟩ := he
  refine ⟨_, ps_set hN hi hx h1 hs hf, fun U ρ h R W B H σ D e s => ?_⟩
  refine r1 ρ _ h R W B H σ _ e fun a B1 H1 z1 e1 g1 f1 f2 f3 f4 => s.nx _ _ B1 H1 z1 (e1.set i ⟨a, rfl, .inr f1, f2, f3⟩ fun b z _ j _ => ?_) g1
  cases z
  exact f4 j
end
end L3

/-! Equality of trees of one shape; in, not in. -/
namespace L3
open PySem L2
inductive Sh where
  | I | B | N | S | T (ss : List Sh) | L (s : Sh)
mutual
def has : Sh → D → Bool
  | .I, .int _ => true
  | .B, .bl _ => true
  | .N, .non => true
  | .S, .str _ => true
  | .T ss, .tup xs => hass ss xs
  | .L s, .lst xs => xs.all fun x => has s x
  | _, _ => false
def hass : List Sh → List D → Bool
  | [], [] => true
  | s :: ss, x :: xs => has s x && hass ss xs
  | _, _ => false
end
mutual
def dep : Sh → Nat
  | .T ss => deps ss + 1
  | .L s => dep s + 1
  | _ => 0
def deps : List Sh → Nat
  | [] => 0
  | s :: ss => max (dep s) (deps ss)
end
noncomputable def eqD (x y : D) : Bool := @decide (x = y) (Classical.propDecidable _)
theorem eqD_iff {x y : D} : eqD x y = true ↔ x = y := by unfold eqD; exact @decide_eq_true_iff _ (Classical.propDecidable _)
theorem eqD_self (x : D) : eqD x x = true := eqD_iff.mpr rfl
theorem eqD_of {x y : D} {b : Bool} (h : b = true ↔ x = y) : eqD x y = b := by
  rw [Bool.eq_iff_iff, eqD_iff, h]
section
variable {K : PySem.W.Frag} {B : Hp}
theorem has_int {x : D} (h : has .I x = true) : ∃ i, x = .int i := by cases x <;> first | exact ⟨_, rfl⟩ | (simp [has] at h)
theorem has_bl {x : D} (h : has .B x = true) : ∃ i, x = .bl i := by cases x <;> first | exact ⟨_, rfl⟩ | (simp [has] at h)
theorem has_non {x : D} (h : has .N x = true) : x = .non := by cases x <;> first | rfl | (simp [has] at h)
theorem has_str {x : D} (h : has .S x = true) : ∃ i, x = .str i := by cases x <;> first | exact ⟨_, rfl⟩ | (simp [has] at h)
theorem has_tup {x : D} {ss : List Sh} (h : has (.T ss) x = true) : ∃ xs, x = .tup xs ∧ hass ss xs = true := by
  cases x <;> first | exact ⟨_, rfl, by simpa [has] using h⟩ | (simp [has] at h)
theorem has_lst {x : D} {s : Sh} (h : has (.L s) x = true) : ∃ xs, x = .lst xs ∧ ∀ y ∈ xs, has s y = true := by
  cases x <;> first | exact ⟨_, rfl, by simpa [has] using h⟩ | (simp [has] at h)
theorem hass_len : ∀ {ss : List Sh} {xs : List D}, hass ss xs = true → xs.length = ss.length
  | [], [], _ => rfl
  | [], _ :: _, h => by simp [hass] at h
  | _ :: _, [], h => by simp [hass] at h
  | s :: ss, x :: xs, h => by
    simp [hass] at h
    simp [hass_len h.2]
mutual
theorem rep_fn : ∀ (sh : Sh) {x y : D} {v : V}, has sh x = true → has sh y = true → Rep K B v x → Rep K B v y → x = y
  | .I, x, y, v, h1, h2, r1, r2 => by
    obtain ⟨i, rfl⟩ := has_int h1; obtain ⟨j, rfl⟩ := has_int h2
    have e := r1.intV.symm.trans r2.intV
    cases e; rfl
  | .B, x, y, v, h1, h2, r1, r2 => by
    obtain ⟨i, rfl⟩ := has_bl h1; obtain ⟨j, rfl⟩ := has_bl h2
    have e := r1.blV.symm.trans r2.blV
    cases e; rfl
  | .N, x, y, v, h1, h2, r1, r2 => by rw [has_non h1, has_non h2]
  | .S, x, y, v, h1, h2, r1, r2 => by
    obtain ⟨i, rfl⟩ := has_str h1; obtain ⟨j, rfl⟩ := has_str h2
    cases r1; cases r2; rfl
  | .T ss, x, y, v, h1, h2, r1, r2 => by
    obtain ⟨xs, rfl, q1⟩ := has_tup h1; obtain ⟨ys, rfl, q2⟩ := has_tup h2
    obtain ⟨a, vs, rfl, ha, ra⟩ := r1.tupV
    obtain ⟨b, ws, e, hb, rb⟩ := r2.tupV
    cases e
    rw [ha] at hb; cases hb
    rw [reps_fn ss q1 q2 ra rb]
  | .L s, x, y, v, h1, h2, r1, r2 => by
    obtain ⟨xs, rfl, q1⟩ := has_lst h1; obtain ⟨ys, rfl, q2⟩ := has_lst h2
    obtain ⟨a, vs, rfl, ha, ra⟩ := r1.lstV
    obtain ⟨b, ws, e, hb, rb⟩ := r2.lstV
    cases e
    rw [ha] at hb; cases hb
    have : xs = ys := by
      apply List.ext_getElem?
      intro i
      cases qx : xs[i]? with
      | none =>
        have : ys[i]? = none := by
          have h1 := ra.length
          have h2 := rb.length
          have h3 := List.getElem?_eq_none_iff.mp qx
          exact List.getElem?_eq_none_iff.mpr (by omega)
        rw [this]
      | some d =>
        obtain ⟨v, ev, rv⟩ := ra.get qx
        obtain ⟨d', ed, rd⟩ := rb.getV ev
        rw [ed, rep_fn s (q1 d (List.mem_of_getElem? qx)) (q2 d' (List.mem_of_getElem? ed)) rv rd]
    rw [this]
theorem reps_fn : ∀ (ss : List Sh) {xs ys : List D} {vs : List V}, hass ss xs = true → hass ss ys = true → Reps K B vs xs → Reps K B vs ys → xs = ys
  | [], xs, ys, vs, h1, h2, r1, r2 => by
    have e1 := hass_len h1; have e2 := hass_len h2
    rw [List.length_nil] at e1 e2
    rw [List.eq_nil_of_length_eq_zero e1, List.eq_nil_of_length_eq_zero e2]
  | s :: ss, [], ys, vs, h1, h2, r1, r2 => by simp [hass] at h1
  | s :: ss, x :: xs, [], vs, h1, h2, r1, r2 => by simp [hass] at h2
  | s :: ss, x :: xs, y :: ys, vs, h1, h2, r1, r2 => by
    simp [hass] at h1 h2
    cases r1 with
    | cons a1 b1 => cases r2 with
      | cons a2 b2 => rw [rep_fn s h1.1 h2.1 a1 a2, reps_fn ss h1.2 h2.2 b1 b2]
end
end
section
variable {X : Cx} {pins : List (Addr × Obj)} {σ : St} {H B : Hp} {s : Shared}
theorem all_eqD {xs ys : List D} {n : Nat} {e : Nat → Bool} (hn : n = xs.length) (hl : xs.length = ys.length) (he : ∀ j, j < n → (e j = true ↔ xs[j]? = ys[j]?)) : ((List.range n).all e) = true ↔ xs = ys := by
  rw [List.all_eq_true]
  constructor
  · intro h
    apply List.ext_getElem?
    intro i
    by_cases hi : i < n
    · exact (he i hi).mp (h i (List.mem_range.mpr hi))
    · rw [List.getElem?_eq_none (by omega), List.getElem?_eq_none (by omega)]
  · rintro rfl j hj
    exact (he j (List.mem_range.mp hj)).mpr rfl
noncomputable def eqO (xs ys : List D) (j : Nat) : Bool := @decide (xs[j]? = ys[j]?) (Classical.propDecidable _)
theorem eqO_iff {xs ys : List D} {j : Nat} : eqO xs ys j = true ↔ xs[j]? = ys[j]? := by unfold eqO; exact @decide_eq_true_iff _ (Classical.propDecidable _)
theorem eqO_at {xs ys : List D} {j : Nat} {x y : D} (h1 : xs[j]? = some x) (h2 : ys[j]? = some y) : eqO xs ys j = eqD x y := by
  rw [Bool.eq_iff_iff, eqO_iff, eqD_iff, h1, h2]
  constructor
  · intro h; exact Option.some.inj h
  · intro h; rw [h]
structure EqAll (A : Around) (s : Shared) (u w : Value) (x y : D) : Prop where
  rc : SeqAt.RcAt A s u w (eqD x y)
  ne : SeqAt.RcNeAt A s u w (!eqD x y)
  eq : SeqAt.EqAt A s u w (eqD x y)
mutual
theorem eq_sh (I : Inv X pins σ H s) (sB : Same B H) : ∀ (sh : Sh) {A : Around} {x y : D} {v w : V} {u u' : Value}, has sh x = true → has sh y = true → Rep X.K B v x → Rep X.K B w y → RelV v u → RelV w u' → A.units + dep sh < cLine → EqAll A s u u' x y
  | .I, A, x, y, v, w, u, u', h1, h2, r1, r2, l1, l2, hu => by
    obtain ⟨i, rfl⟩ := has_int h1; obtain ⟨j, rfl⟩ := has_int h2
    cases r1.intV; cases r2.intV
    obtain ⟨t, rfl⟩ := l1; obtain ⟨t', rfl⟩ := l2
    have e : eqD (.int i) (.int j) = (i == j) := eqD_of (by simp)
    refine ⟨?_, ?_, ?_⟩ <;> rw [e]
    · exact SeqAt.RcAt.int_int i t j t'
    · exact SeqAt.RcNeAt.int_int i t j t'
    · exact SeqAt.EqAt.int_int i t j t'
  | .B, A, x, y, v, w, u, u', h1, h2, r1, r2, l1, l2, hu => by
    obtain ⟨i, rfl⟩ := has_bl h1; obtain ⟨j, rfl⟩ := has_bl h2
    cases r1.blV; cases r2.blV
    cases l1; cases l2
    have e : eqD (.bl i) (.bl j) = (i == j) := eqD_of (by simp)
    refine ⟨?_, ?_, ?_⟩ <;> rw [e]
    · exact SeqAt.RcAt.bool_bool i j
    · exact SeqAt.RcNeAt.bool_bool i j
    · exact SeqAt.EqAt.bool_bool i j
  | .N, A, x, y, v, w, u, u', h1, h2, r1, r2, l1, l2, hu => by
    cases has_non h1; cases has_non h2
    cases r1.nonV; cases r2.nonV
    cases l1; cases l2
    have e : eqD .non .non = true := eqD_self _
    refine ⟨?_, ?_, ?_⟩ <;> rw [e]
    · exact SeqAt.RcAt.none_none
    · exact SeqAt.RcNeAt.none_none
    · exact SeqAt.EqAt.same _
  | .S, A, x, y, v, w, u, u', h1, h2, r1, r2, l1, l2, hu => by
    obtain ⟨i, rfl⟩ := has_str h1; obtain ⟨j, rfl⟩ := has_str h2
    cases r1; cases r2
    obtain ⟨t, rfl⟩ := l1; obtain ⟨t', rfl⟩ := l2
    have e : eqD (.str i) (.str j) = (i == j) := eqD_of (by simp)
    refine ⟨?_, ?_, ?_⟩ <;> rw [e]
    · exact SeqAt.RcAt.str_str i t j t'
    · exact SeqAt.RcNeAt.str_str i t j t'
    · exact SeqAt.EqAt.str_str i t j t'
  | .T ss, A, x, y, v, w, u, u', h1, h2, r1, r2, l1, l2, hu => by
    have r1' := r1
    have r2' := r2
    obtain ⟨xs, rfl, q1⟩ := has_tup h1; obtain ⟨ys, rfl, q2⟩ := has_tup h2
    obtain ⟨a, vs, rfl, ha, ra⟩ := r1.tupV
    obtain ⟨b, ws, rfl, hb, rb⟩ := r2.tupV
    cases l1; cases l2
    obtain ⟨its, k1, t1, _⟩ := I.tuple (SqT.of (sB _ _ ha))
    obtain ⟨its2, k2, t2, _⟩ := I.tuple (SqT.of (sB _ _ hb))
    have d1 : dep (.T ss) = deps ss + 1 := by simp [dep]
    have lx := hass_len q1
    have ly := hass_len q2
    have z1 := ra.length; have z2 := rb.length; have z3 := k1.length; have z4 := k2.length
    have el := eqs_sh I sB ss (A := A.in1) q1 q2 ra rb k1 k2 (by show A.units + 1 + deps ss < cLine; omega)
    have he : ∀ j (h1 : j < its.toArray.size) (h2 : j < its2.toArray.size), SeqAt.EqAt A.in1 s its.toArray[j] its2.toArray[j] (eqO xs ys j) := fun j g1 g2 => by
      have := el j (by simpa using g1) (by simpa using g2)
      simpa using this
    have e : eqD (.tup xs) (.tup ys) = ((List.range (min its.toArray.size its2.toArray.size)).all (eqO xs ys) && its.toArray.size == its2.toArray.size) := by
      refine eqD_of ?_
      have s1 : its.toArray.size = xs.length := by simp; omega
      have s2 : its2.toArray.size = xs.length := by simp; omega
      rw [s1, s2, Nat.min_self, Bool.and_eq_true]
      have := all_eqD (xs := xs) (ys := ys) (n := xs.length) (e := eqO xs ys) rfl (by omega) (fun j _ => eqO_iff)
      constructor
      · intro h; rw [this.mp h.1]
      · intro h; cases h; exact ⟨this.mpr rfl, by simp⟩
    have rc : SeqAt.RcAt A s (.ref a) (.ref b) (eqD (.tup xs) (.tup ys)) := by rw [e]; exact SeqAt.RcAt.tuples t1 t2 (by omega) he
    refine ⟨rc, by rw [e]; exact SeqAt.RcNeAt.tuples t1 t2 (by omega) he, ?_⟩
    by_cases hab : a = b
    · subst hab
      have := rep_fn (.T ss) h1 h2 r1' r2'
      rw [this, eqD_self]
      exact SeqAt.EqAt.same _
    · exact SeqAt.EqAt.of_refs hab rc
  | .L sh, A, x, y, v, w, u, u', h1, h2, r1, r2, l1, l2, hu => by
    have r1' := r1
    have r2' := r2
    obtain ⟨xs, rfl, q1⟩ := has_lst h1; obtain ⟨ys, rfl, q2⟩ := has_lst h2
    obtain ⟨a, vs, rfl, ha, ra⟩ := r1.lstV
    obtain ⟨b, ws, rfl, hb, rb⟩ := r2.lstV
    cases l1; cases l2
    obtain ⟨its, k1, p1, _⟩ := I.list (SqL.of (sB _ _ ha))
    obtain ⟨its2, k2, p2, _⟩ := I.list (SqL.of (sB _ _ hb))
    have t1 := p1.isList
    have t2 := p2.isList
    have d1 : dep (.L sh) = dep sh + 1 := by simp [dep]
    have z1 := ra.length; have z2 := rb.length; have z3 := k1.length; have z4 := k2.length
    have he : ∀ j (h1 : j < its.toArray.size) (h2 : j < its2.toArray.size), SeqAt.EqAt A.in1 s its.toArray[j] its2.toArray[j] (eqO xs ys j) := fun j g1 g2 => by
      have g1' : j < its.length := by simpa using g1
      have g2' : j < its2.length := by simpa using g2
      obtain ⟨v1, e1, rv1⟩ := k1.getR (List.getElem?_eq_getElem g1')
      obtain ⟨v2, e2, rv2⟩ := k2.getR (List.getElem?_eq_getElem g2')
      obtain ⟨c1, f1, rd1⟩ := ra.getV e1
      obtain ⟨c2, f2, rd2⟩ := rb.getV e2
      rw [eqO_at f1 f2]
      have := (eq_sh I sB sh (A := A.in1) (q1 c1 (List.mem_of_getElem? f1)) (q2 c2 (List.mem_of_getElem? f2)) rd1 rd2 rv1 rv2 (by show A.units + 1 + dep sh < cLine; omega)).eq
      simpa using this
    by_cases hsz : its.toArray.size = its2.toArray.size
    · have s1 : its.toArray.size = xs.length := by simp; omega
      have s2 : xs.length = ys.length := by simp at hsz; omega
      have e : eqD (.lst xs) (.lst ys) = (List.range its.toArray.size).all (eqO xs ys) := by
        refine eqD_of ?_
        rw [all_eqD (xs := xs) (ys := ys) s1 s2 (fun j _ => eqO_iff)]
        constructor
        · intro h; rw [h]
        · intro h; cases h; rfl
      have rc : SeqAt.RcAt A s (.ref a) (.ref b) (eqD (.lst xs) (.lst ys)) := by rw [e]; exact SeqAt.RcAt.lists t1 t2 hsz (by omega) he
      refine ⟨rc, by rw [e]; exact SeqAt.RcNeAt.lists t1 t2 hsz (by omega) he, ?_⟩
      by_cases hab : a = b
      · subst hab
        have := rep_fn (.L sh) h1 h2 r1' r2'
        rw [this, eqD_self]
        exact SeqAt.EqAt.same _
      · exact SeqAt.EqAt.of_refs hab rc
    · have e : eqD (.lst xs) (.lst ys) = false := eqD_of (by
        constructor
        · intro h; cases h
        · intro h; cases h; simp at hsz; omega)
      have hne : (its.toArray.size != its2.toArray.size) = true := by simpa using hsz
      have rc : SeqAt.RcAt A s (.ref a) (.ref b) (eqD (.lst xs) (.lst ys)) := by rw [e]; exact SeqAt.RcAt.lists_lengths t1 t2 hne (by omega)
      refine ⟨rc, by rw [e]; exact SeqAt.RcNeAt.lists_lengths t1 t2 hne (by omega), ?_⟩
      refine SeqAt.EqAt.of_refs (fun hab => ?_) rc
      subst hab
      have := rep_fn (.L sh) h1 h2 r1' r2'
      cases this
      simp at hsz; omega
theorem eqs_sh (I : Inv X pins σ H s) (sB : Same B H) : ∀ (ss : List Sh) {A : Around} {xs ys : List D} {vs ws : List V} {us us' : List Value}, hass ss xs = true → hass ss ys = true → Reps X.K B vs xs → Reps X.K B ws ys → Vals vs us → Vals ws us' → A.units + deps ss < cLine →
    ∀ j (h1 : j < us.length) (h2 : j < us'.length), SeqAt.EqAt A s us[j] us'[j] (eqO xs ys j)
  | [], A, [], ys, _, _, _, _, h1, h2, .nil, r2, .nil, l2, hu, j, g1, g2 => absurd g1 (by simp)
  | [], A, x :: xs, ys, _, _, _, _, h1, h2, r1, r2, l1, l2, hu, j, g1, g2 => by simp [hass] at h1
  | s :: ss, A, [], ys, vs, ws, us, us', h1, h2, r1, r2, l1, l2, hu, j, g1, g2 => by simp [hass] at h1
  | s :: ss, A, x :: xs, [], vs, ws, us, us', h1, h2, r1, r2, l1, l2, hu, j, g1, g2 => by simp [hass] at h2
  | s :: ss, A, x :: xs, y :: ys, v :: vs, w :: ws, u :: us, u' :: us', h1, h2, .cons a1 b1, .cons a2 b2, .cons c1 d1, .cons c2 d2, hu, 0, g1, g2 => by
    have h1' : has s x = true := by simp [hass] at h1; exact h1.1
    have h2' : has s y = true := by simp [hass] at h2; exact h2.1
    have dd : deps (s :: ss) = max (dep s) (deps ss) := by simp [deps]
    have := (eq_sh I sB s (A := A) h1' h2' a1 a2 c1 c2 (by omega)).eq
    rw [eqO_at (xs := x :: xs) (ys := y :: ys) (j := 0) rfl rfl]
    exact this
  | s :: ss, A, x :: xs, y :: ys, v :: vs, w :: ws, u :: us, u' :: us', h1, h2, .cons a1 b1, .cons a2 b2, .cons c1 d1, .cons c2 d2, hu, j + 1, g1, g2 => by
    have h1' : hass ss xs = true := by simp [hass] at h1; exact h1.2
    have h2' : hass ss ys = true := by simp [hass] at h2; exact h2.2
    have dd : deps (s :: ss) = max (dep s) (deps ss) := by simp [deps]
    have := eqs_sh I sB ss (A := A) h1' h2' b1 b2 d1 d2 (by omega) j (by simpa using g1) (by simpa using g2)
    have e : eqO (x :: xs) (y :: ys) (j + 1) = eqO xs ys j := by
      rw [Bool.eq_iff_iff, eqO_iff, eqO_iff]; simp
    rw [e]
    exact this
end
/-- == and != of trees of one shape -/
def rEqD (K : PySem.W.Frag) (ng : Bool) : R2 := fun x y H Q => ∃ B d e sh, Rep K B x d ∧ Rep K B y e ∧ Same B H ∧ has sh d = true ∧ has sh e = true ∧ dep sh ≤ 50 ∧ Q (.bl (if ng then !eqD d e else eqD d e)) H
theorem op_eqD (hu : X.A.units + 64 < cLine) : OpR X (compareOp .Eq) (rEqD X.K false) := by
  intro pins s σ H x y v u Q I rx ry h
  obtain ⟨B, d, e, sh, r1, r2, sB, h1, h2, hd, q⟩ := h
  exact (eq_sh I sB sh (A := X.A) h1 h2 r1 r2 rx ry (by omega)).rc _ _ _ _ ⟨.bl _, H, I, rfl, q⟩
theorem op_neD (hu : X.A.units + 64 < cLine) : OpR X (compareOp .NotEq) (rEqD X.K true) := by
  intro pins s σ H x y v u Q I rx ry h
  obtain ⟨B, d, e, sh, r1, r2, sB, h1, h2, hd, q⟩ := h
  exact (eq_sh I sB sh (A := X.A) h1 h2 r1 r2 rx ry (by omega)).ne _ _ _ _ ⟨.bl _, H, I, rfl, q⟩
end
section
variable {K : PySem.W.Frag} {X : Cx} {a b : Expr} {ua ub : UE} {pos : Pos}
/-- x == y, x != y; the truth by a bool that is told by x = y -/
def uEq (ng : Bool) (ua ub : UE) : UE := fun ρ k => ua ρ fun x => ub ρ fun y => ∃ sh, has sh x = true ∧ has sh y = true ∧ dep sh ≤ 50 ∧ k (.bl (if ng then !eqD x y else eqD x y))
theorem refEq {ta tb : TE} {ng : Bool} (ha : RefE K ta ua) (hb : RefE K tb ub) : RefE K (tOp (rEqD K ng) ta tb) (uEq ng ua ub) :=
  ref2 ha hb fun x y k h R W B H σ ρ v w Q e rx ry q => by
    obtain ⟨sh, h1, h2, hd, hk⟩ := h
    exact ⟨B, x, y, sh, rx, ry, e.bh, h1, h2, hd, q _ _ B H hk e (Grow.refl _ _) (.bl _)⟩
theorem e_eq (hu : X.A.units + 64 < cLine) (ha : PE3 X a ua) (hb : PE3 X b ub) (hm : behindInMarks .Eq b = false) : PE3 X (.Compare a [.Eq] [b] pos) (uEq false ua ub) := by
  obtain ⟨_, h1, r1⟩ := ha; obtain ⟨_, h2, r2⟩ := hb
  exact ⟨_, pe_cmpR (op_eqD hu) h1 h2 hm, refEq r1 r2⟩
theorem e_ne (hu : X.A.units + 64 < cLine) (ha : PE3 X a ua) (hb : PE3 X b ub) (hm : behindInMarks .NotEq b = false) : PE3 X (.Compare a [.NotEq] [b] pos) (uEq true ua ub) := by
  obtain ⟨_, h1, r1⟩ := ha; obtain ⟨_, h2, r2⟩ := hb
  exact ⟨_, pe_cmpR (op_neD hu) h1 h2 hm, refEq r1 r2⟩
theorem t_eq (hu : X.A.units + 64 < cLine) (ha : PE3 X a ua) (hb : PE3 X b ub) (hm : behindInMarks .Eq b = false) : PT3 X (.Compare a [.Eq] [b] pos) (uB (uEq false ua ub)) := by
  obtain ⟨_, h1, r1⟩ := ha; obtain ⟨_, h2, r2⟩ := hb
  exact ⟨_, pt_cmpR (op_eqD hu) h1 h2 hm, refB (refEq r1 r2)⟩
theorem t_ne (hu : X.A.units + 64 < cLine) (ha : PE3 X a ua) (hb : PE3 X b ub) (hm : behindInMarks .NotEq b = false) : PT3 X (.Compare a [.NotEq] [b] pos) (uB (uEq true ua ub)) := by
  obtain ⟨_, h1, r1⟩ := ha; obtain ⟨_, h2, r2⟩ := hb
  exact ⟨_, pt_cmpR (op_neD hu) h1 h2 hm, refB (refEq r1 r2)⟩
end
end L3

/-! From the hand layer's promises to promises over trees: script, bag, draws, the law itself. -/
namespace L3
open PySem L2
open PySem.Builtin.Int (intBits)
theorem law_def3 {K : PySem.W.Frag} {P : Program} {w : World} {mg : Str → Option Value} {base : Heap} {x qual : Str} {st : Stmt} {f : Addr} {fd : FuncData} {N ps : List Str} {lv n : Nat} {F : FS} (Fd : Fun K x qual st f fd) (S : FnScope N ps (defScope st)) (hn : ps.length = n)
    (hbody : ∀ (cdv : Value) (A : Around) (outer : List PySem.Env) (s : Shared) (H : Hp) (E : XK), Room lv (A.deeper (PyProof.Rows.envOfC qual (defScope st) s.heap.objs.size f cdv)) →
      ∃ u, PSs3 (cxOf CX0 P w K mg base N qual (defScope st) f cdv A outer s H E).nox (defBody st) u ∧ ∀ as k, as.length = n → F as k → u { nx := fun _ => k (.val .non), rt := k } (as ++ List.replicate (N.length - n) .no)) : FnOk P w K mg base CX0 (lv + 1) f fd ps (Con K n F) := by
  refine Fd.ok S (fun vs H Q E h => ?_) (fun cdv A outer s H vs Q E hr h => ?_)
  · obtain ⟨W, B, as, k, _, hl, _, _, _, ai, _⟩ := h
    rw [ai.length, hl, hn]
  · obtain ⟨W, B, as, k, hF, hl, hb, sB, hw, ai, q⟩ := h
    obtain ⟨u, ⟨t, ht, rt⟩, hu⟩ := hbody cdv A outer s H E hr
    have ev := Ev.start (N := N) (Nat.le_of_ble_eq_true hb) sB hw ai
    rw [hl] at ev
    refine ⟨t, ht, rt _ _ (hu as k hl hF) H W B H (L2.start N vs) _ ev ⟨fun ρ σ B' H' h e g => ?_, fun _ _ _ _ h => h.elim, fun _ _ _ _ h => h.elim, fun r v B' H' h e g z => q r v B' H' h ⟨e, g, z⟩⟩⟩
    exact q _ _ B' H' h ⟨e.toWd, g, .non⟩
def spLaw (K : PySem.W.Frag) : Sp := fun vs H Q _ => ∃ (a : Addr) (ns : List Int), vs = [.ref a] ∧ SqL K H a (ns.map V.int) ∧ ns.length ≤ 63 ∧ ∀ H', Q (.bl true) H'
def F_law : FS := fun as k => ∃ ns : List Int, as = [.val (.scr ns)] ∧ ns.length ≤ 63 ∧ k (.val (.bl true))
theorem law_con {K : PySem.W.Frag} {vs : List V} {H : Hp} {Q : VK} {E : XK} (h : spLaw K vs H Q E) : Con K 1 F_law vs H Q E := by
  obtain ⟨a, ns, rfl, hS, hl, q⟩ := h
  refine ⟨fun _ => False, H, [.val (.scr ns)], fun r => r = .val (.bl true), ⟨ns, rfl, hl, rfl⟩, rfl, rfl, Same.refl _, fun _ z => z.elim, .val (.scr hS) .nil, fun r v B' H' hr ex => ?_⟩
  subst hr
  have := ex.res
  rw [Rep.blV this]
  exact q H'
def spCell (K : PySem.W.Frag) : Sp := fun vs H Q _ => ∃ (a : Addr) (k : Int) (ns : List Int), vs = [.ref a, .int k] ∧ SqL K H a (ns.map V.int) ∧ 0 ≤ k ∧ ∀ z, Q (.int z) H
def F_cell : FS := fun as k => ∃ (ns : List Int) (i : Int), as = [.val (.scr ns), .val (.int i)] ∧ 0 ≤ i ∧ ∀ z : Int, k (.val (.int z))
theorem Wd.entry {H B : Hp} {W : Addr → Prop} (sB : Same B H) (hw : ∀ a, W a → B a = none ∧ Bag H a) : Wd H W B H :=
  ⟨fun _ _ h _ => h, sB, fun a h => (hw a h).1, fun a h => (hw a h).2, fun a h => by obtain ⟨x, y, q, _⟩ := (hw a h).2; rw [q]; simp⟩
theorem cell_con {K : PySem.W.Frag} {vs : List V} {H : Hp} {Q : VK} {E : XK} (h : Con K 2 F_cell vs H Q E) : spCell K vs H Q E := by
  obtain ⟨W, B, as, k, ⟨ns, i, rfl, hi, hk⟩, hl, hb, sB, hw, ai, q⟩ := h
  cases ai with
  | val r1 ai => cases ai with
    | val r2 ai =>
      cases ai
      obtain ⟨a, rfl, ha⟩ := r1.scrV
      cases r2.intV
      exact ⟨a, i, ns, rfl, sB.seq ha, hi, fun z => q _ _ B H (hk z) ⟨Wd.entry sB hw, Grow.refl _ _, .int z⟩⟩
def spBag : Sp := fun vs H Q _ => ∃ c : Int, vs = [.int c] ∧ ∀ (b : Addr) (x y : Int), H b = none → 0 ≤ x → 0 ≤ y → y < 2147483647 → Q (.ref b) (upd H b (.lst [.int x, .int y]))
def F_bag : FS := fun as k => ∃ c : Int, as = [.val (.int c)] ∧ k .bag
theorem bag_con {K : PySem.W.Frag} {vs : List V} {H : Hp} {Q : VK} {E : XK} (h : Con K 1 F_bag vs H Q E) : spBag vs H Q E := by
  obtain ⟨W, B, as, k, ⟨c, rfl, hk⟩, hl, hb, sB, hw, ai, q⟩ := h
  cases ai with
  | val r1 ai =>
    cases ai
    cases r1.intV
    refine ⟨c, rfl, fun b x y hn x0 y0 y1 => ?_⟩
    have wd := Wd.entry sB hw
    exact q .bag _ B _ hk ⟨wd.allocH hn _, Grow.refl _ _, b, rfl, hn, (wd.fresh hn).2.2, x, y, upd_same, x0, y0, y1⟩
/-- a draw below m, whatever the bag gives -/
def spDraw (lim : Nat) : Sp := fun vs H Q _ => ∃ (b : Addr) (m : Int), vs = [.ref b, .int m] ∧ Bag H b ∧ 0 < m ∧ intBits m ≤ lim ∧ ∀ (r : Int) (H' : Hp), Ext b H H' → Bag H' b → 0 ≤ r → r < m → Q (.int r) H'
def F_draw (lim : Nat) : FS := fun as k => ∃ m : Int, as = [.bag, .val (.int m)] ∧ 0 < m ∧ intBits m ≤ lim ∧ ∀ r : Int, 0 ≤ r → r < m → k (.val (.int r))
theorem draw_con {K : PySem.W.Frag} {lim : Nat} {vs : List V} {H : Hp} {Q : VK} {E : XK} (h : Con K 2 (F_draw lim) vs H Q E) : spDraw lim vs H Q E := by
  obtain ⟨W, B, as, k, ⟨m, rfl, m0, mb, hk⟩, hl, hb, sB, hw, ai, q⟩ := h
  cases ai with
  | bag hW ai => cases ai with
    | val r2 ai =>
      cases ai
      cases r2.intV
      rename_i b
      refine ⟨b, m, rfl, (hw b hW).2, m0, mb, fun r H' ex bg r0 r1 => ?_⟩
      have wd := Wd.entry sB hw
      refine q _ _ B H' (hk r r0 r1) ⟨⟨fun a o h1 h2 => ex a o (by rintro rfl; exact h2 hW) h1, fun a o h1 => ex a o (by rintro rfl; rw [(hw _ hW).1] at h1; cases h1) (sB a o h1), wd.wb, fun a z => ?_, wd.wr⟩, Grow.refl _ _, .int r⟩
      by_cases e : a = b
      · subst e; exact bg
      · obtain ⟨x, y, h1, h2⟩ := (hw a z).2
        exact ⟨x, y, ex a _ e h1, h2⟩
/-! ### steps of a reading -/
theorem iteT3 {c : Bool} {A B : Prop} (h : c = true) (a : A) : if c = true then A else B := by rw [if_pos h]; exact a
theorem iteF3 {c : Bool} {A B : Prop} (h : c = false) (b : B) : if c = true then A else B := by rw [h, if_neg Bool.false_ne_true]; exact b
theorem neIf {x y : D} {A B : Prop} (h1 : x ≠ y → A) (h2 : x = y → B) : if (!eqD x y) = true then A else B := by
  by_cases h : x = y
  · rw [eqD_iff.mpr h]; exact h2 h
  · have : eqD x y = false := by
      cases q : eqD x y with
      | false => rfl
      | true => exact absurd (eqD_iff.mp q) h
    rw [this]; exact h1 h
theorem eqNe {x y : D} (h : x ≠ y) : eqD x y = false := by
  cases q : eqD x y with
  | false => rfl
  | true => exact absurd (eqD_iff.mp q) h
theorem at3 {u : US} {U : UEnds} {ρ r : List Sl} (e : ρ = r) (h : u U r) : u U ρ := by rw [e]; exact h
theorem pass4 {s t : US} {U : UEnds} {ρ : List Sl} (first : ∀ N : List Sl → Prop, N ρ → s { U with nx := N } ρ) (rest : t U ρ) : uSeq s t U ρ := first (t U) rest
theorem mid4 {s t : US} {U : UEnds} {ρ : List Sl} (I : List Sl → Prop) (rest : ∀ ρ', I ρ' → t U ρ') (first : ∀ N : List Sl → Prop, (∀ ρ', I ρ' → N ρ') → s { U with nx := N } ρ) : uSeq s t U ρ := first _ rest
theorem forR_ints {s : US} {U : UEnds} {n : Nat} (I : List Sl → Prop) : ∀ {ds : List D} {ρ : List Sl}, I ρ → (∀ d ∈ ds, ∃ c : Int, d = .int c) →
    (∀ (c : Int) ρ, I ρ → ∀ N : List Sl → Prop, (∀ r, I r → N r) → s { U with nx := N, ct := N, bk := U.nx } (ρ.set n (.val (.int c)))) → (∀ ρ, I ρ → U.nx ρ) → forR (ugName n) s U ds ρ
  | [], ρ, h0, _, _, h2 => h2 ρ h0
  | d :: ds, ρ, h0, hd, h1, h2 => by
    obtain ⟨c, rfl⟩ := hd d List.mem_cons_self
    exact h1 c ρ h0 _ fun r hr => forR_ints I hr (fun e he => hd e (List.mem_cons_of_mem _ he)) h1 h2
theorem cutL_length {α : Type} (xs : List α) (lo hi : Option Int) : (cutL xs lo hi).length ≤ xs.length := by
  unfold cutL
  rw [List.length_take, List.length_drop]
  omega
theorem cutL_mem {α : Type} {xs : List α} {lo hi : Option Int} {x : α} (h : x ∈ cutL xs lo hi) : x ∈ xs := List.mem_of_mem_drop (List.mem_of_mem_take h)
theorem law_items {z : Int} {ns : List Int} {lo hi : Option Int} : ∀ d ∈ [D.int z] ++ cutL (ns.map D.int) lo hi, ∃ c : Int, d = .int c := fun d hd => by
  rcases List.mem_append.mp hd with h | h
  · exact ⟨z, by simpa using h⟩
  · obtain ⟨i, _, e⟩ := List.mem_map.mp (cutL_mem h)
    exact ⟨i, e.symm⟩
theorem law_len {z : Int} {ns : List Int} {lo hi : Option Int} (h : ns.length ≤ 63) : [D.int z].length + (cutL (ns.map D.int) lo hi).length ≤ sizeLine := by
  have h1 := cutL_length (ns.map D.int) lo hi
  rw [List.length_map] at h1
  have : 64 ≤ sizeLine := by decide
  simp only [List.length_singleton]
  omega
end L3

/-! A list of one's own read where it stands: in, ==, isinstance; its items walked. -/
namespace L3
open PySem L2
section
variable {K : PySem.W.Frag} {X : Cx} {a b e : Expr} {ua ub u : UE} {pos p : Pos}
end
/-! ### the free names of a comprehension -/
section
variable {X : Cx}
theorem fsub_of {cl cs : List (Str × Addr)} (h : ∀ p ∈ cl, cs.lookup p.1 = some p.2) : ∀ y c, cl.lookup y = some c → cs.lookup y = some c := fun y c e => h (y, c) (PySem.mem_of_lookup e)
theorem fhas_b {names : List (Str × NameKind)} {cl : List (Str × Addr)} (h : (names.all fun p => !(p.2 == .cell || p.2 == .free) || (cl.lookup p.1).isSome) = true) : ∀ y, (names.lookup y = some .cell ∨ names.lookup y = some .free) → ∃ c, cl.lookup y = some c := fun y e => by
  have key : ∀ k : NameKind, (k == .cell || k == .free) = true → names.lookup y = some k → ∃ c, cl.lookup y = some c := fun k hk e => by
    have q := List.all_eq_true.mp h (y, k) (PySem.mem_of_lookup e)
    have q : (!(k == .cell || k == .free) || (cl.lookup y).isSome) = true := q
    rw [hk] at q
    exact Option.isSome_iff_exists.mp (by simpa using q)
  rcases e with e | e
  · exact key _ rfl e
  · exact key _ rfl e
end
end L3

/-! A comprehension of one clause, any target, perhaps a test, its value used at once or given to a name. -/
namespace L2
open PySem PySem.Spec PyProof.Rows
/-- the tests of a clause -/
def PIfs (X : Cx) (ifs : List Expr) (tt : TT) : Prop := ∀ (pins : List (Addr × Obj)) (s : Shared) (σ : St) (H : Hp) (Q : Bool → Hp → Prop), Inv X pins σ H s → tt σ H Q →
  wpAny (model X.prog X.w) X.A (forIn ifs true fun t r => if r = true then do let z ← isTrue t X.env (eval t X.env); pure (ForInStep.yield z) else pure (ForInStep.yield r)) (TP X pins σ Q) X.xe s
def tTrue : TT := fun _ H Q => Q true H
theorem pifs_nil {X : Cx} : PIfs X [] tTrue := fun _ _ _ H _ I h => wpAny_tests_nil ⟨H, I, h⟩
/-- what a comprehension's block asks, the inner names' state along -/
def CompG (J : It) (g : TG) (tt : TT) (te : TE) (σ0 : St) (D : Addr) (H1 : Hp) (Q : VK) : Prop := ∃ W : Nat → Nat → St → Hp → Prop, (∃ m, W 0 m σ0 (upd H1 D (.lst []))) ∧ ∀ i m σ H, W i m σ H →
  (J.stop i H ∧ Q (.ref D) H) ∨ (J.go i H ∧ ∀ x H', J.yld i H x H' → g x σ H' fun σ2 H2 => tt σ2 H2 fun b H3 => if b = true then te σ2 H3 fun y H4 => ∃ ys, H4 D = some (.lst ys) ∧ ys.length < sizeLine ∧ ∃ m', m' < m ∧ W (i + 1) m' σ2 (upd H4 D (.lst (ys ++ [y]))) else ∃ m', m' < m ∧ W (i + 1) m' σ2 H3)
def tCompG (wi : TI) (g : TG) (tt : TT) (te : TE) (nt : Nat) (js : List Nat) : TE := fun σ H Q => wi σ H fun J H1 => ∀ D, H1 D = none → CompG J g tt te (List.replicate nt none ++ freeV σ js) D H1 Q
abbrev TM := St → Hp → (St → Hp → Prop) → Prop
/-- what is done at a turn ahead of the next one -/
def EmOk (Y : Cx) (em' : Sem Fin → Sem Fin) (em : TM) : Prop := ∀ (pins : List (Addr × Obj)) (s : Shared) (σ : St) (H : Hp) (Q : St → Hp → Prop) (k : Sem Fin) (R : Fin → Shared → Prop) (E : Value → Shared → Prop), Inv Y pins σ H s → em σ H Q →
  (∀ s' σ' H', Inv Y pins σ' H' s' → Q σ' H' → wpAny (model Y.prog Y.w) Y.A k R E s') → wpAny (model Y.prog Y.w) Y.A (em' k) R E s
def turnF (e : Expr) (d : Nat) (tg src : Expr) (ifs : List Expr) (em' : Sem Fin → Sem Fin) (it acc : Value) (env : PySem.Env) : Sem Fin :=
  standAt src.pos >>= fun _ => pyNext it >>= fun r => match r with
    | none => pure (Fin.done .next)
    | some v => letOwnedTupleGo tg it v >>= fun _ => assign tg env v >>= fun _ =>
      (forIn ifs true fun t r => if r = true then do let z ← isTrue t env (eval t env); pure (ForInStep.yield z) else pure (ForInStep.yield r)) >>= fun ok =>
        if ok = true then em' (again (.compLoop e d it acc env)) else again (.compLoop e d it acc env)
def emE' (elt : Expr) (acc : Value) (env : PySem.Env) (k : Sem Fin) : Sem Fin := (eval elt env >>= fun x => call (.builtin "list.append") [acc, x] >>= fun _ => pure ()) >>= fun _ => k
section
variable {elt t0 i0 t1 i1 t2 i2 : Expr} {f0 f1 f2 : List Expr} {sc : Scope} {ps : Pos} {it acc : Value} {env : PySem.Env}
end
section
variable {Y : Cx} {elt tg src : Expr} {gens : List Comprehension} {ifs : List Expr} {sc : Scope} {ps : Pos} {d : Nat} {acc : Value} {wi : TI} {g : TG} {tt : TT} {te : TE} {em : TM} {em' : Sem Fin → Sem Fin}
def emE (te : TE) (D : Addr) : TM := fun σ H Q => te σ H fun y H4 => ∃ ys, H4 D = some (.lst ys) ∧ ys.length < sizeLine ∧ Q σ (upd H4 D (.lst (ys ++ [y])))
/-- a loop's turns -/
def Lp (J : It) (g : TG) (tt : TT) (em : TM) (W : Nat → Nat → St → Hp → Prop) (QS : St → Hp → Prop) : Prop := ∀ i m σ H, W i m σ H →
  (J.stop i H ∧ QS σ H) ∨ (J.go i H ∧ ∀ x H', J.yld i H x H' → g x σ H' fun σ2 H2 => tt σ2 H2 fun b H3 => if b = true then em σ2 H3 fun σ4 H4 => ∃ m', m' < m ∧ W (i + 1) m' σ4 H4 else ∃ m', m' < m ∧ W (i + 1) m' σ2 H3)
theorem loop_em {it : Addr} {J : It} {fp : List Addr} {tn : Nat → Heap → Prop} (ht : compTurn (.ListComp elt gens sc ps) d (.ref it) acc Y.env = turnF (.ListComp elt gens sc ps) d tg src ifs em' (.ref it) acc Y.env) (T : Turn Y.prog Y.w Y.K tg J fp it tn) (hx : ∀ e s, ¬ Y.xe e s) (hc : Y.calm = true) (hg : PG Y tg g) (hts : PIfs Y ifs tt) (hem : EmOk Y em' em)
    {pins : List (Addr × Obj)} {W : Nat → Nat → St → Hp → Prop} {QS : St → Hp → Prop} {m0 : Nat} {s : Shared} {σ : St} {H : Hp} (I : Inv Y pins σ H s) (st : tn 0 s.heap) (fr : ∀ b ∈ fp, FpOk Y pins H b) (w0 : W 0 m0 σ H) (turn : Lp J g tt em W QS) {R : Result → Shared → Prop} (hR : ∀ s' σ' H', Inv Y pins σ' H' s' → QS σ' H' → R (.ok .next) s') :
    codeAny (model Y.prog Y.w) Y.A (.compLoop (.ListComp elt gens sc ps) d (.ref it) acc Y.env) R s := by
  have stat : ∀ {H' : Hp}, (∀ b ∈ fp, H' b = none) → ∀ b ∈ fp, FpOk Y pins H' b := fun hn b hb => ⟨hn b hb, (fr b hb).2⟩
  refine codeAny_loop rfl (fun n s' => ∃ i σ' H', Inv Y pins σ' H' s' ∧ tn i s'.heap ∧ (∀ b ∈ fp, H' b = none) ∧ W i n σ' H') (fun n s5 hv => ?_) m0 ⟨0, σ, H, I, st, fun b hb => (fr b hb).1, w0⟩
  show wpAny _ Y.A (Sem.onRaise (compTurn (.ListComp elt gens sc ps) d (.ref it) acc Y.env) _) _ _ s5
  rw [ht]
  unfold turnF
  refine wpAny_noted (wpAny_bind (wpAny_standAt (wpAny_bind ?_)))
  obtain ⟨i, σ5, H5, I5, st5, fr5, w5⟩ := hv
  rcases turn i n σ5 H5 w5 with ⟨stop, q⟩ | ⟨go, step⟩
  · refine wpAny_mono (T.done Y rfl rfl rfl hc i pins s5 σ5 H5 (fun _ _ => False) I5 (stat fr5) st5 stop) (fun r s6 ⟨hr, I6⟩ => ?_) (fun _ _ z => z.elim)
    subst hr
    exact wpAny_pure (hR _ _ _ I6 q)
  · refine wpAny_mono (T.item Y rfl rfl rfl hc i pins s5 σ5 H5 (fun _ _ => False) I5 (stat fr5) st5 go) (fun r s6 ⟨u, hr, h6⟩ => ?_) (fun _ _ z => z.elim)
    subst hr
    refine wpAny_bind (wpAny_mono h6 (fun _ s7 ⟨v, H7, I7, r7, y7, st7, fr7⟩ => ?_) (fun _ _ z => z.elim))
    have I7' := I7.pinned (stat fr7) (T.obj _ _ st7)
    have back : ∀ {s9 : Shared} {σ9 : St} {H9 : Hp} {n' : Nat}, Inv Y (pins ++ pinsAt fp s7.heap) σ9 H9 s9 → W (i + 1) n' σ9 H9 → ∃ i σ' H', Inv Y pins σ' H' s9 ∧ tn i s9.heap ∧ (∀ b ∈ fp, H' b = none) ∧ W i n' σ' H' := fun {s9 σ9 H9 n'} I9 w9 => by
      refine ⟨i + 1, σ9, H9, I9.unpinned, T.keep _ _ _ st7 fun b hb oo ee => (I9.pin (b, oo) (List.mem_append_right _ (List.mem_append_right _ (mem_pinsAt hb ee)))).1, fun b hb => ?_, w9⟩
      obtain ⟨oo, ee, _⟩ := T.obj _ _ st7 b hb
      exact (I9.pin (b, oo) (List.mem_append_right _ (List.mem_append_right _ (mem_pinsAt hb ee)))).2.1
    refine wpAny_bind (wpAny_mono (hg _ s7 σ5 H7 v u _ I7' r7 (step v H7 y7)) (fun _ s8 ⟨σ8, H8, I8, q8⟩ => ?_) (fun _ _ z => (hx _ _ z).elim))
    refine wpAny_bind (wpAny_mono (hts _ s8 σ8 H8 _ I8 q8) (fun b s9 ⟨H9, I9, q9⟩ => ?_) (fun _ _ z => (hx _ _ z).elim))
    cases b with
    | false =>
      rw [if_neg Bool.false_ne_true] at q9 ⊢
      obtain ⟨m', lm, w9⟩ := q9
      exact wpAny_pure ⟨rfl, m', lm, back I9 w9⟩
    | true =>
      rw [if_pos rfl] at q9 ⊢
      refine hem _ s9 σ8 H9 _ _ _ _ I9 q9 fun s' σ' H' I' q' => ?_
      obtain ⟨m', lm, w9⟩ := q'
      exact wpAny_pure ⟨rfl, m', lm, back I' w9⟩
theorem em_elt {D : Addr} (he : PE Y elt te) (hx : ∀ e s, ¬ Y.xe e s) : EmOk Y (emE' elt (.ref D) Y.env) (emE te D) := by
  intro pins s σ H Q k R E I h hk
  unfold emE'
  refine wpAny_bind (wpAny_bind (wpAny_mono (he pins s σ H _ I h) (fun yv s10 ⟨y, H10, I10, r10, ys, e10, l10, q10⟩ => ?_) (fun _ _ z => (hx _ _ z).elim)))
  have mt := mt_append (X := Y) pins s10 σ H10 (.ref D) [y] (.ref D) [yv] (fun _ H' => H' = upd H10 D (.lst (ys ++ [y]))) I10 rfl (.cons r10 .nil) ⟨D, ys, y, rfl, rfl, e10, l10, rfl⟩
  refine wpAny_bind (wpAny_mono mt (fun _ s11 ⟨_, H11, I11, _, e11⟩ => ?_) (fun _ _ z => (hx _ _ z).elim))
  subst e11
  exact wpAny_pure (hk _ _ _ I11 q10)
end
section
variable {X : Cx}
/-- what the names within ask of the outer def -/
structure FreeOk (X : Cx) (scope : Scope) (cl : List (Str × Addr)) (fr : List Str) (js : List Nat) : Prop where
  clos : closureFor scope X.env = pure cl
  cell : ∀ y ∈ scope.names, y.2 ≠ .cell
  kind : scope.kind = .function
  names : ∀ y ∈ scope.names, y.2 = .local → scope.names.lookup y.1 = some .local
  sub : ∀ y c, cl.lookup y = some c → X.env.cells.lookup y = some c
  has : ∀ y, ((relabel scope X.env).names.lookup y = some .cell ∨ (relabel scope X.env).names.lookup y = some .free) → ∃ c, cl.lookup y = some c
  frn : ∀ (i : Nat) (y : Str), fr[i]? = some y → ∃ j : Nat, js[i]? = some j ∧ X.N[j]? = some y ∧ X.env.kindOf y = some .cell ∧ ((relabel scope X.env).names.lookup y = some .cell ∨ (relabel scope X.env).names.lookup y = some .free) ∧ ∃ c, cl.lookup y = some c
  len : js.length = fr.length
end
def CompM (J : It) (g : TG) (tt : TT) (em : Addr → TM) (σ0 : St) (D : Addr) (H1 : Hp) (Q : VK) : Prop := ∃ W : Nat → Nat → St → Hp → Prop, (∃ m, W 0 m σ0 (upd H1 D (.lst []))) ∧ Lp J g tt (em D) W fun _ H => Q (.ref D) H
def tCompM (wi : TI) (g : TG) (tt : TT) (em : Addr → TM) (nt : Nat) (js : List Nat) : TE := fun σ H Q => wi σ H fun J H1 => ∀ D, H1 D = none → CompM J g tt em (List.replicate nt none ++ freeV σ js) D H1 Q
section
variable {X : Cx}
/-- the block runs; what is made of the list behind it is left open (RR) -/
theorem comp_blockM {elt iter tg : Expr} {rest : List Comprehension} {ifs : List Expr} {pos : Pos} {scope : Scope} {cl : List (Str × Addr)} {ts fr : List Str} {js : List Nat} {wi : TI} {g : TG} {tt : TT} {em : Addr → TM} {em' : Value → PySem.Env → Sem Fin → Sem Fin} {use : Option (Value → Sem Unit)} {RQ : Value → Shared → Prop} {QE : VK}
    (hi : PI X tg iter wi) (hg : ∀ C s H ex, PG (compCx X (ts ++ fr) scope cl C s H ex) tg g) (hts : ∀ C s H ex, PIfs (compCx X (ts ++ fr) scope cl C s H ex) ifs tt) (hem : ∀ D C s H ex, EmOk (compCx X (ts ++ fr) scope cl C s H ex) (em' (.ref D) (compEnvC scope cl C X.env)) (em D)) (htn : ∀ it acc env, compTurn (.ListComp elt (⟨tg, iter, ifs, 0⟩ :: rest) scope pos) 0 it acc env = turnF (.ListComp elt (⟨tg, iter, ifs, 0⟩ :: rest) scope pos) 0 tg iter ifs (em' acc env) it acc env)
    (F : FreeOk X scope cl fr js) (hc : X.calm = true) (hs : ∀ v, foldedSetIterable iter X.env v = pure v)
    {pins : List (Addr × Obj)} {s : Shared} {σ : St} {H : Hp} (I : Inv X pins σ H s) (h : tCompM wi g tt em ts.length js σ H QE) (newAcc : Sem Value) (hnew : newAcc = newList []) (pp : Pos)
    (hR : ∀ (D C : Addr) (H5 : Hp) (s6 : Shared) (m : Str → Option Value), s6.heap.Ns C m → H5 C = none → C ≠ X.env.locals → X.s₀.heap.objs.size ≤ C → (∀ x c, X.env.cells.lookup x = some c → c ≠ C) → (∀ p ∈ X.pn ++ pins, p.1 ≠ C) → C ∉ X.fs →
      (∀ h' : Heap, (∀ b u, b ≠ C → s6.heap.get? b = some u → h'.get? b = some u) → Inv X pins σ H5 { s6 with heap := h' }) → QE (.ref D) H5 → compPost (model X.prog X.w) X.A X.xe use RQ (.ref D) C (.ok .next) s6) :
    wpAny (model X.prog X.w) X.A (comprehension (.ListComp elt (⟨tg, iter, ifs, 0⟩ :: rest) scope pos) scope X.env pp newAcc false (eval iter X.env) use) RQ X.xe s := by
  refine wpAny_comprehension_free (use := use) rfl hs F.clos F.kind F.names (thn (hi pins s σ H _ I h) fun xv s1 h1 => thn h1 fun itv s2 h2 => ?_)
  obtain ⟨it, fp, tn, J, H2, rfl, I2, T, st2, f2, h2⟩ := h2
  have hD : H2 s2.heap.objs.size = none := I2.fresh
  obtain ⟨W, ⟨m0, w0⟩, turn⟩ := h2 _ hD
  rw [hnew]
  refine wpAny_newObj_type ?_
  have I3 : Inv X pins σ (upd H2 s2.heap.objs.size (.lst [])) { s2 with heap := s2.heap.push { cls := .type "list", data := .seq ([] : List Value).toArray } } := I2.lnew (t' := s2.toks) (its := []) .nil (by show 0 ≤ sizeLine; decide)
  generalize hs3 : ({ s2 with heap := s2.heap.push { cls := .type "list", data := .seq ([] : List Value).toArray } } : Shared) = s3 at I3
  have e3 : s3.heap = s2.heap.push { cls := .type "list", data := .seq ([] : List Value).toArray } := by rw [← hs3]
  generalize hH3 : upd H2 s2.heap.objs.size (.lst []) = H3 at I3 w0
  generalize hDD : s2.heap.objs.size = D at hD hH3 w0 turn
  have k3 : ∀ b o, s2.heap.get? b = some o → s3.heap.get? b = some o := fun b o e => by rw [e3]; exact Heap.get?_push_of_some _ e
  have f3 : ∀ b ∈ fp, FpOk X pins H3 b := fun b hb => by
    obtain ⟨o, ho, _⟩ := T.obj _ _ st2 b hb
    have lt := Heap.lt_size ho
    refine ⟨?_, (f2 b hb).2⟩
    rw [← hH3, upd_ne (by rw [← hDD]; exact Nat.ne_of_lt lt)]
    exact (f2 b hb).1
  refine wpAny_newFunctionEnv F.cell (by intro y hy; simp at hy) (fun h1 hns hsb => ?_) F.kind
  have hC3 : s3.heap.get? s3.heap.objs.size = none := Heap.get?_none_of_le (Nat.le_refl _)
  have k4 : ∀ b o, s3.heap.get? b = some o → h1.get? b = some o := fun b o e => hsb.extBut b o (Nat.ne_of_lt (Heap.lt_size e)) (Heap.get?_push_of_some _ e)
  show codeAny (model X.prog X.w) X.A (.compStart (.ListComp elt (⟨tg, iter, ifs, 0⟩ :: rest) scope pos) 0 (.ref it) (.ref D) (compEnvC scope cl s3.heap.objs.size X.env)) (compPost (model X.prog X.w) X.A X.xe use RQ (.ref D) s3.heap.objs.size) _
  have ok : (compCx X (ts ++ fr) scope cl s3.heap.objs.size s3 H3 fp).Ok := by
    refine ⟨I3.ok.mod, F.kind, I3.ok.glob, I3.ok.blt, Nat.le_refl _, fun y z c e1 e2 => I3.ok.inj y z c (F.sub _ _ e1) (F.sub _ _ e2), fun y hy => F.has y hy, fun y c z => absurd z Bool.false_ne_true, I3.ok.hd, I3.ok.frames, .inl rfl, fun b hb => ?_, I3.bs, Nat.le_trans I3.ok.bsz I3.sz,
      fun b o e hb => ?_, fun b hb hf => ?_, I3.stack, I3.stkFree, I3.tabs⟩
    · obtain ⟨o, ho, _⟩ := T.obj _ _ st2 b hb
      exact ⟨Nat.ne_of_lt (Heap.lt_size (k3 b o ho)), fun y c e => (f3 b hb).2.2.2.2.1 y c (F.sub _ _ e)⟩
    · obtain ⟨_, _, _, z, _⟩ := f3 b hb
      rcases z with z | z
      · exact I3.ok.noex b o e z
      · exact absurd (Nat.lt_of_lt_of_le (Heap.lt_size (I3.ok.bs b o e).1) z) (Nat.lt_irrefl _)
    · rcases List.mem_cons.mp (I3.stkSub b hf) with z | z
      · exact (f3 b hb).2.1 z
      · exact (f3 b hb).2.2.1 z
  have frV : ∀ (hh : Heap), (∀ b u, s3.heap.get? b = some u → hh.get? b = some u) → ∀ (i : Nat) (y : Str) (v : V), fr[i]? = some y → (freeV σ js)[i]? = some (some v) → ∃ u, RelV v u ∧ ∀ m, Look (compEnvC scope cl s3.heap.objs.size X.env) hh m y u := fun hh kk i y v e1 e2 => by
    obtain ⟨j, ej, eN, hk, hkin, c, hcl⟩ := F.frn i y e1
    have e2' : σ[j]? = some (some v) := by
      unfold freeV at e2
      rw [List.getElem?_map, ej, Option.map_some] at e2
      have e2 := Option.some.inj e2
      cases q : σ[j]? with
      | none => rw [q] at e2; simp at e2
      | some z => rw [q] at e2; simpa using e2
    obtain ⟨m, hn, hl⟩ := I3.loc
    obtain ⟨u, r, l⟩ := hl j y v eN e2' (.inr (.inl hk))
    refine ⟨u, r, fun m' => .inr ⟨hkin, c, hcl, ?_⟩⟩
    rcases l with ⟨z, _⟩ | ⟨_, c', hc', hce⟩
    · rw [hk] at z; cases z
    · have e := F.sub _ _ hcl
      rw [hc'] at e; cases e
      obtain ⟨oo, q1, q2⟩ := hce
      exact ⟨oo, kk _ _ q1, q2⟩
  have I4 : Inv (compCx X (ts ++ fr) scope cl s3.heap.objs.size s3 H3 fp) [] (List.replicate ts.length none ++ freeV σ js) H3 { s3 with heap := h1, toks := s3.toks + ([] : List (Str × Value)).length } := by
    refine ⟨ok, rfl, I3.bare, Un.kept k4, ⟨_, hns, fun i y v e1 e2 e3 => ?_⟩, fun y c e => ?_, I3.fresh, fun y c e => I3.freeC y c (F.sub _ _ e), fun p hp => absurd (show p ∈ ([] : List (Addr × Obj)) from hp) (by simp), I3.hok.kept k4, ?_⟩
    · by_cases hlt : i < ts.length
      · rw [List.getElem?_append_left (by simpa using hlt), List.getElem?_replicate, if_pos hlt] at e2
        cases e2
      · have e1 : (ts ++ fr)[i]? = some y := e1
        rw [List.getElem?_append_right (by omega)] at e1
        rw [List.getElem?_append_right (by simp; omega), List.length_replicate] at e2
        obtain ⟨u, r, l⟩ := frV h1 k4 _ y v e1 e2
        exact ⟨u, r, l _⟩
    · obtain ⟨v, oo, q1, q2⟩ := I3.cell y c (F.sub _ _ e)
      exact ⟨v, oo, k4 _ _ q1, q2⟩
    · show _ = (ts ++ fr).length
      rw [List.length_append, List.length_append, List.length_replicate]
      unfold freeV
      rw [List.length_map, F.len]
  have stat : ∀ {H' : Hp}, (∀ b ∈ fp, H' b = none) → ∀ b ∈ fp, FpOk (compCx X (ts ++ fr) scope cl s3.heap.objs.size s3 H3 fp) [] H' b := fun hn b hb => by
    obtain ⟨o, ho, _⟩ := T.obj _ _ st2 b hb
    exact ⟨hn b hb, (ok.exf b hb).1, ok.exfs b hb, .inl hb, (ok.exf b hb).2, fun p hp => absurd (show p ∈ ([] : List (Addr × Obj)) from hp) (by simp)⟩
  have loop : ∀ s4 : Shared, s4 = { s3 with heap := h1, toks := s3.toks + ([] : List (Str × Value)).length } →
      codeAny (model X.prog X.w) X.A (.compLoop (.ListComp elt (⟨tg, iter, ifs, 0⟩ :: rest) scope pos) 0 (.ref it) (.ref D) (compEnvC scope cl s3.heap.objs.size X.env)) (compPost (model X.prog X.w) X.A X.xe use RQ (.ref D) s3.heap.objs.size) s4 := by
    intro s4 e4
    rw [← e4] at I4
    have st4 : tn 0 s4.heap := T.keep _ _ _ st2 fun b _ o e => by rw [e4]; exact k4 b o (k3 b o e)
    refine loop_em (Y := compCx X (ts ++ fr) scope cl s3.heap.objs.size s3 H3 fp) (QS := fun _ H5 => QE (.ref D) H5) (htn _ _ _) T (fun _ _ z => z) hc (hg _ _ _ _) (hts _ _ _ _) (hem D _ _ _ _) I4 st4 (stat fun b hb => (f3 b hb).1) w0 turn fun s6 σ5 H5 I6 q => ?_
    obtain ⟨m, hn, _⟩ := id I6.loc
    refine hR D s3.heap.objs.size H5 s6 m hn I6.free (Nat.ne_of_gt I3.lt) I3.sz (fun y c e z => ?_) (fun p hp z => ?_) (I3.nofs (Nat.le_refl _)) (fun h' kb => ?_) q
    · obtain ⟨v, oo, q1, q2⟩ := I3.cell y c e
      exact absurd (Heap.lt_size q1) (by rw [z]; exact Nat.lt_irrefl _)
    · exact absurd (Heap.lt_size (I3.pin p hp).1) (by rw [z]; exact Nat.lt_irrefl _)
    · refine I3.call' (s' := { s6 with heap := h' }) (ch := fp) I6.os ((show Un (frs X.stack) fp H3 H5 s3.heap s6.heap from I6.base).but hC3 kb) (I6.hok.but I6.free kb) I6.bare (fun b hb => ?_)
      obtain ⟨_, z1, _, z3, z4, z5⟩ := f3 b hb
      exact ⟨z3, z1, z4, z5⟩
  exact codeAny_compStart_list (loop _ rfl) (T.self _ 0 _ _ _ (T.keep _ _ _ st2 fun b _ o e => k4 b o (k3 b o e)) (loop _ rfl))
theorem pe_compM {elt iter tg : Expr} {rest : List Comprehension} {ifs : List Expr} {pos : Pos} {scope : Scope} {cl : List (Str × Addr)} {ts fr : List Str} {js : List Nat} {wi : TI} {g : TG} {tt : TT} {em : Addr → TM} {em' : Value → PySem.Env → Sem Fin → Sem Fin}
    (hi : PI X tg iter wi) (hg : ∀ C s H ex, PG (compCx X (ts ++ fr) scope cl C s H ex) tg g) (hts : ∀ C s H ex, PIfs (compCx X (ts ++ fr) scope cl C s H ex) ifs tt) (hem : ∀ D C s H ex, EmOk (compCx X (ts ++ fr) scope cl C s H ex) (em' (.ref D) (compEnvC scope cl C X.env)) (em D)) (htn : ∀ it acc env, compTurn (.ListComp elt (⟨tg, iter, ifs, 0⟩ :: rest) scope pos) 0 it acc env = turnF (.ListComp elt (⟨tg, iter, ifs, 0⟩ :: rest) scope pos) 0 tg iter ifs (em' acc env) it acc env)
    (F : FreeOk X scope cl fr js) (hc : X.calm = true) (hs : ∀ v, foldedSetIterable iter X.env v = pure v) : PE X (.ListComp elt (⟨tg, iter, ifs, 0⟩ :: rest) scope pos) (tCompM wi g tt em ts.length js) := by
  intro pins s σ H Q I h
  rw [eval_ListComp]
  refine comp_blockM hi hg hts hem htn F hc hs I h _ rfl _ fun D C H5 s6 m hn _ _ _ _ _ _ iv q => ⟨m, hn, fun h' hs' => ⟨.ref D, H5, iv h' fun b u hb e => hs'.extBut b u hb e, rfl, q⟩⟩
end
section
variable {X : Cx}
theorem ps_compAM {elt iter tg : Expr} {rest : List Comprehension} {ifs : List Expr} {pos : Pos} {scope : Scope} {cl : List (Str × Addr)} {ts fr : List Str} {js : List Nat} {wi : TI} {g : TG} {tt : TT} {em : Addr → TM} {em' : Value → PySem.Env → Sem Fin → Sem Fin} {i : Nat} {y : Str} {py spos : Pos}
    (hN : X.N.Nodup) (hiN : X.N[i]? = some y) (hy : X.env.scope.names.lookup y = some .local)
    (hi : PI X tg iter wi) (hg : ∀ C s H ex, PG (compCx X (ts ++ fr) scope cl C s H ex) tg g) (hts : ∀ C s H ex, PIfs (compCx X (ts ++ fr) scope cl C s H ex) ifs tt) (hem : ∀ D C s H ex, EmOk (compCx X (ts ++ fr) scope cl C s H ex) (em' (.ref D) (compEnvC scope cl C X.env)) (em D)) (htn : ∀ it acc env, compTurn (.ListComp elt (⟨tg, iter, ifs, 0⟩ :: rest) scope pos) 0 it acc env = turnF (.ListComp elt (⟨tg, iter, ifs, 0⟩ :: rest) scope pos) 0 tg iter ifs (em' acc env) it acc env)
    (F : FreeOk X scope cl fr js) (hc : X.calm = true) (hs : ∀ v, foldedSetIterable iter X.env v = pure v) (hsw : swapsWith (.ListComp elt (⟨tg, iter, ifs, 0⟩ :: rest) scope pos) (some (.Name y py)) spos.line X.env = pure true) :
    PS X (.Assign [.Name y py] (.ListComp elt (⟨tg, iter, ifs, 0⟩ :: rest) scope pos) spos) (tAsg (tCompM wi g tt em ts.length js) (gName i)) := by
  intro pins s σ H D I h
  rw [exec_Assign_Name_used _ _ _ _ hsw]
  refine wpAny_bind (wpAny_standAt (wpAny_bind ?_))
  show wpAny _ X.A (do let _ ← comprehension (.ListComp elt (⟨tg, iter, ifs, 0⟩ :: rest) scope pos) scope X.env _ (newList []) false (eval iter X.env) (some (assign (.Name y py) X.env))) _ _ s
  refine wpAny_bind (thn (comp_blockM (RQ := fun _ s' => ∃ σ' H', Inv X pins σ' H' s' ∧ D.nx σ' H') (QE := fun v H1 => gName i v σ H1 D.nx) hi hg hts hem htn F hc hs I h _ rfl _ ?_) fun _ s' q => wpAny_pure (wpAny_pure q))
  intro L C H5 s6 m hn hf hL hsz hcl hpn hfs iv q
  obtain ⟨o, es, ep, ho, hd, r⟩ := id hn
  have I6 : Inv X pins σ H5 s6 := iv s6.heap fun b u _ e => e
  have I6p : Inv X (pins ++ [(C, o)]) σ H5 s6 := I6.pins_of fun p hp => by
    rcases List.mem_append.mp hp with z | z
    · exact I6.pin p (List.mem_append_right _ z)
    · have z : p = (C, o) := by simpa using z
      subst z
      exact ⟨ho, hf, hL, hfs, fun v z => by rw [hd] at z; cases z⟩
  show wpAny _ X.A (assign (.Name y py) X.env (.ref L)) _ _ _
  refine wpAny_assign_Name (store_ok I6p hN hiN (.inl hy) (v := .ref L) rfl (fun s7 I7 => ?_) (.inr hy))
  have h7 : s7.heap.get? C = some o := (I7.pin (C, o) (List.mem_append_right _ (List.mem_append_right _ (List.mem_singleton.mpr rfl)))).1
  refine ⟨m, ⟨o, es, ep, h7, hd, r⟩, fun h' hs' => ⟨_, H5, ?_, q⟩⟩
  exact I7.unpinned.turned (t' := s7.toks) (fun b u hb e => hs'.extBut b u hb e) hf hL (.inr hsz) hcl hpn
end
section
variable {X : Cx}
theorem pe_compG {elt iter tg : Expr} {ifs : List Expr} {pos : Pos} {scope : Scope} {cl : List (Str × Addr)} {ts fr : List Str} {js : List Nat} {wi : TI} {g : TG} {tt : TT} {te : TE}
    (hi : PI X tg iter wi) (hg : ∀ C s H ex, PG (compCx X (ts ++ fr) scope cl C s H ex) tg g) (hts : ∀ C s H ex, PIfs (compCx X (ts ++ fr) scope cl C s H ex) ifs tt) (helt : ∀ C s H ex, PE (compCx X (ts ++ fr) scope cl C s H ex) elt te)
    (F : FreeOk X scope cl fr js) (hc : X.calm = true) (hs : ∀ v, foldedSetIterable iter X.env v = pure v) : PE X (.ListComp elt [⟨tg, iter, ifs, 0⟩] scope pos) (tCompG wi g tt te ts.length js) :=
  pe_compM (rest := []) (em := emE te) hi hg hts (fun D C s H ex => em_elt (Y := compCx X (ts ++ fr) scope cl C s H ex) (helt C s H ex) fun _ _ z => z) (fun _ _ _ => rfl) F hc hs
theorem ps_compA {elt iter tg : Expr} {ifs : List Expr} {pos : Pos} {scope : Scope} {cl : List (Str × Addr)} {ts fr : List Str} {js : List Nat} {wi : TI} {g : TG} {tt : TT} {te : TE} {i : Nat} {y : Str} {py spos : Pos}
    (hN : X.N.Nodup) (hiN : X.N[i]? = some y) (hy : X.env.scope.names.lookup y = some .local)
    (hi : PI X tg iter wi) (hg : ∀ C s H ex, PG (compCx X (ts ++ fr) scope cl C s H ex) tg g) (hts : ∀ C s H ex, PIfs (compCx X (ts ++ fr) scope cl C s H ex) ifs tt) (helt : ∀ C s H ex, PE (compCx X (ts ++ fr) scope cl C s H ex) elt te)
    (F : FreeOk X scope cl fr js) (hc : X.calm = true) (hs : ∀ v, foldedSetIterable iter X.env v = pure v) (hsw : swapsWith (.ListComp elt [⟨tg, iter, ifs, 0⟩] scope pos) (some (.Name y py)) spos.line X.env = pure true) :
    PS X (.Assign [.Name y py] (.ListComp elt [⟨tg, iter, ifs, 0⟩] scope pos) spos) (tAsg (tCompG wi g tt te ts.length js) (gName i)) :=
  ps_compAM (rest := []) (em := emE te) hN hiN hy hi hg hts (fun D C s H ex => em_elt (Y := compCx X (ts ++ fr) scope cl C s H ex) (helt C s H ex) fun _ _ z => z) (fun _ _ _ => rfl) F hc hs hsw
end
end L2

/-! Comprehensions over trees: any target, perhaps a test, given to a name. -/
namespace L3
open PySem L2
def compG (g : UG) (ut : UT) (u : UE) : List D → List Sl → (List D → Prop) → Prop
  | [], _, k => k []
  | d :: ds, ρ, k => g d ρ fun ρ1 => ut ρ1 fun b => if b = true then u ρ1 fun y => compG g ut u ds ρ1 fun ys => k (y :: ys) else compG g ut u ds ρ1 k
def utTrue : UT := fun _ k => k true
def uCompG (w : UL) (g : UG) (ut : UT) (u : UE) (nt : Nat) (js : List Nat) : UL := fun ρ k => w ρ fun ds => ds.length ≤ sizeLine ∧ compG g ut u ds (List.replicate nt .no ++ js.map (frS ρ)) k
section
variable {K : PySem.W.Frag} {X : Cx} {e : Expr} {es : List Expr} {u : UE} {w : UL} {pos p : Pos}
theorem frS_cases {ρ : List Sl} (j : Nat) : frS ρ j = .no ∨ (∃ d, frS ρ j = .val d ∧ ρ[j]? = some (.val d)) ∨ (frS ρ j = .bag ∧ ρ[j]? = some .bag) := by
  unfold frS
  split
  · rename_i d hj; exact .inr (.inl ⟨d, rfl, hj⟩)
  · rename_i hj; exact .inr (.inr ⟨rfl, hj⟩)
  · exact .inl rfl
/-- the state within a comprehension, at its beginning -/
theorem Ev.within {R : Hp} {W : Addr → Prop} {B H : Hp} {σ : St} {ρ : List Sl} (e : Ev K R W B H σ ρ) (nt : Nat) {js : List Nat} (hnd : js.Nodup) :
    Ev K H (fun a => ∃ j, j ∈ js ∧ σ[j]? = some (some (.ref a)) ∧ ρ[j]? = some .bag) B H (List.replicate nt none ++ freeV σ js) (List.replicate nt .no ++ js.map (frS ρ)) := by
  have bg : ∀ (a : Addr) (j : Nat), σ[j]? = some (some (V.ref a)) → ρ[j]? = some Sl.bag → B a = none ∧ Bag H a := fun a j z1 z2 => by
    obtain ⟨c, c1, _, c3, c4⟩ := e.bagAt z2
    rw [z1] at c1; cases c1; exact ⟨c3, c4⟩
  refine ⟨⟨fun _ _ z _ => z, e.bh, fun a ⟨j, _, z1, z2⟩ => (bg a j z1 z2).1, fun a ⟨j, _, z1, z2⟩ => (bg a j z1 z2).2, fun a ⟨j, _, z1, z2⟩ => ?_⟩, ?_, fun n kk hk => ?_, fun n m a m1 m2 => ?_⟩
  · obtain ⟨x, y, q, _⟩ := (bg a j z1 z2).2
    rw [q]; simp
  · unfold freeV; simp
  · by_cases hlt : n < nt
    · rw [List.getElem?_append_left (by simpa using hlt), List.getElem?_replicate, if_pos hlt] at hk
      cases hk; trivial
    · rw [List.getElem?_append_right (by simp; omega), List.length_replicate, List.getElem?_map] at hk
      cases qj : js[n - nt]? with
      | none => rw [qj] at hk; cases hk
      | some j =>
        rw [qj] at hk
        have hk := Option.some.inj hk
        have eo : ((List.replicate nt none ++ freeV σ js)[n]?).join = (σ[j]?).join := by
          rw [List.getElem?_append_right (by simp; omega), List.length_replicate]
          unfold freeV
          rw [List.getElem?_map, qj]
          rfl
        rw [eo, ← hk]
        rcases frS_cases (ρ := ρ) j with z | ⟨dd, z, hj⟩ | ⟨z, hj⟩ <;> rw [z]
        · trivial
        · obtain ⟨v, v1, v2⟩ := e.ok j _ hj
          exact ⟨v, v1, v2⟩
        · obtain ⟨c, c1, _, c3, c4⟩ := e.ok j _ hj
          exact ⟨c, c1, .inl ⟨j, List.mem_of_getElem? qj, join_some c1, hj⟩, c3, c4⟩
  · have back : ∀ n, MutAt (List.replicate nt none ++ freeV σ js) (List.replicate nt .no ++ js.map (frS ρ)) n a → ∃ j, nt ≤ n ∧ js[n - nt]? = some j ∧ MutAt σ ρ j a := fun n mm => by
      rcases mm with ⟨m1, m2⟩ | ⟨c, m1, _⟩
      rotate_left
      · by_cases hlt : n < nt
        · rw [List.getElem?_append_left (by simpa using hlt), List.getElem?_replicate, if_pos hlt] at m1
          cases m1
        · rw [List.getElem?_append_right (by simp; omega), List.length_replicate, List.getElem?_map] at m1
          cases qj : js[n - nt]? with
          | none => rw [qj] at m1; cases m1
          | some j =>
            rw [qj, Option.map_some] at m1
            rcases frS_cases (ρ := ρ) j with z | ⟨dd, z, hj⟩ | ⟨z, hj⟩ <;> rw [z] at m1 <;> cases m1
      by_cases hlt : n < nt
      · rw [List.getElem?_append_left (by simpa using hlt), List.getElem?_replicate, if_pos hlt] at m1
        cases m1
      · rw [List.getElem?_append_right (by simp; omega), List.length_replicate] at m1
        obtain ⟨j, qj, oj⟩ := freeV_get m1
        rw [List.getElem?_append_right (by simp; omega), List.length_replicate, List.getElem?_map, qj] at m2
        refine ⟨j, by omega, qj, .inl ⟨join_some oj.symm, .inl ?_⟩⟩
        rcases frS_cases (ρ := ρ) j with z | ⟨dd, z, hj⟩ | ⟨z, hj⟩
        · rw [Option.map_some, z] at m2; rcases m2 with q | ⟨_, q⟩ <;> cases q
        · rw [Option.map_some, z] at m2; rcases m2 with q | ⟨_, q⟩ <;> cases q
        · exact hj
    obtain ⟨j, l1, qj, mj⟩ := back n m1
    obtain ⟨j', l2, qj', mj'⟩ := back m m2
    have := e.sep j j' a mj mj'
    subst this
    have l3 : n - nt < js.length := by
      by_cases z : n - nt < js.length
      · exact z
      · rw [List.getElem?_eq_none (by omega)] at qj; cases qj
    have := (List.getElem?_inj l3 hnd).mp (qj.trans qj'.symm)
    omega
theorem mixB_at {R : Hp} {W : Addr → Prop} {B : Hp} {a : Addr} {vs : List V} (h : R a = some (.lst vs)) (nw : ¬ W a) : mixB R W B a = some (.lst vs) := by
  unfold mixB; rw [h]; dsimp only; rw [if_neg nw]
theorem mixB_no {R : Hp} {W : Addr → Prop} {B : Hp} {a : Addr} (h : ∀ vs, R a ≠ some (.lst vs)) : mixB R W B a = B a := by
  unfold mixB
  split
  · rename_i vs e; exact absurd e (h vs)
  · rfl
/-- what lies there: of what stays, or a list of the entry's -/
theorem mixB_out {R : Hp} {W : Addr → Prop} {B : Hp} {a : Addr} {o : HO} (h : mixB R W B a = some o) : B a = some o ∨ (¬ W a ∧ R a = some o ∧ ∃ vs, o = .lst vs) := by
  unfold mixB at h
  split at h
  · rename_i vs e
    split at h
    · exact .inl h
    · rename_i z; cases h; exact .inr ⟨z, e, vs, rfl⟩
  · exact .inl h
theorem mixB_now {R : Hp} {W : Addr → Prop} {B H : Hp} (w : Wd R W B H) : Same (mixB R W B) H := fun a o h => by
  rcases mixB_out h with h | ⟨h1, h2, _⟩
  · exact w.bh a o h
  · exact w.fr a o h2 h1
/-- with the heap now as the entry -/
theorem mixB_re {R : Hp} {W W' : Addr → Prop} {B B' H : Hp} (w : Wd R W B H) (s : Same B B') (sB : Same B' H) (hw : ∀ a, W' a → R a ≠ none → W a) (hb : ∀ a, W' a → B' a = none) : Same (mixB R W B) (mixB H W' B') := fun a o h => by
  have hH := mixB_now w a o h
  rcases mixB_out h with h | ⟨h1, h2, vs, rfl⟩
  · have h' := s a o h
    by_cases z : W' a
    · rw [hb a z] at h'; cases h'
    · by_cases q : ∃ vs, H a = some (.lst vs)
      · obtain ⟨vs, q⟩ := q
        rw [hH] at q; cases q
        exact mixB_at hH z
      · rw [mixB_no fun vs e => q ⟨vs, e⟩]; exact h'
  · exact mixB_at hH fun z => h1 (hw a z (by rw [h2]; simp))
theorem Ev.rebase {R : Hp} {W : Addr → Prop} {B H : Hp} {σ : St} {ρ : List Sl} (e : Ev K R W B H σ ρ) (hm : ∀ j a, MutAt σ ρ j a → W a) : Ev K H W B H σ ρ := by
  refine ⟨⟨fun _ _ z _ => z, e.bh, e.wb, e.wh, fun a z => by obtain ⟨x', y', q', _⟩ := e.wh a z; rw [q']; simp⟩, e.len, fun j kk hj => ?_, e.sep⟩
  have := e.ok j kk hj
  cases kk with
  | no => trivial
  | new d =>
    obtain ⟨v, h1, h2⟩ := this
    exact ⟨v, h1, h2.mono (mixB_re e.toWd (Same.refl _) e.bh (fun _ z _ => z) e.wb)⟩
  | pin v d => exact ⟨this.1, this.2.mono (mixB_re e.toWd (Same.refl _) e.bh (fun _ z _ => z) e.wb)⟩
  | val d => exact this
  | own ds =>
    obtain ⟨a, q1, q2, _⟩ := this
    exact absurd q2 (e.wr a (hm j a (.inl ⟨join_some q1, .inr ⟨ds, hj⟩⟩)))
  | deep c => exact absurd (this.2.fr _ List.mem_cons_self).1 (e.wr _ (hm j _ (.inr ⟨c, hj, List.mem_cons_self⟩)))
  | bag =>
    obtain ⟨c, c1, c2, c3, c4⟩ := this
    exact ⟨c, c1, .inl (hm j c (.inl ⟨join_some c1, .inl hj⟩)), c3, c4⟩
theorem Ev.unbase {R : Hp} {W : Addr → Prop} {B H B' H' : Hp} {σ : St} {ρ : List Sl} (e : Ev K R W B H σ ρ) (hm : ∀ j a, MutAt σ ρ j a → W a) (e' : Ev K H W B' H' σ ρ) (g : Grow H B B') : Ev K R W B' H' σ ρ ∧ Grow R B B' := by
  refine ⟨⟨⟨fun a o z nw => e'.fr a o (e.fr a o z nw) nw, e'.bh, e'.wb, e'.wh, e.wr⟩, e'.len, fun j kk hj => ?_, e'.sep⟩, ⟨g.s, fun a o z => ?_⟩⟩
  · have := e'.ok j kk hj
    cases kk with
    | no => trivial
    | new d =>
      obtain ⟨v, h1, h2⟩ := e.ok j _ hj
      exact ⟨v, h1, h2.mono (mixB_mono g.s)⟩
    | pin v d =>
      obtain ⟨h1, h2⟩ := e.ok j _ hj
      exact ⟨h1, h2.mono (mixB_mono g.s)⟩
    | val d => exact this
    | own ds =>
      obtain ⟨a, q1, q2, _⟩ := e.ok j _ hj
      exact absurd q2 (e.wr a (hm j a (.inl ⟨join_some q1, .inr ⟨ds, hj⟩⟩)))
    | deep c => exact absurd ((e.deepAt hj).2.fr _ List.mem_cons_self).1 (e.wr _ (hm j _ (.inr ⟨c, hj, List.mem_cons_self⟩)))
    | bag =>
      obtain ⟨c, c1, c2, c3, c4⟩ := this
      exact ⟨c, c1, .inl (hm j c (.inl ⟨join_some c1, .inl hj⟩)), c3, c4⟩
  · rcases g.n a o z with q | q
    · exact .inl q
    · exact .inr (e.toWd.fresh q).1
theorem refCompG {wi : TI} {g : TG} {tt : TT} {te : TE} {ug : UG} {ut : UT} {nt : Nat} {js : List Nat} (h0 : RefI K wi w) (hg : RefG K g ug) (ht : RefT K tt ut) (h1 : RefE K te u) (hnd : js.Nodup) : RefO K (tCompG wi g tt te nt js) (uCompG w ug ut u nt js) := by
  intro ρ k h R W B H σ Q e q
  refine h0 ρ _ h R W B H σ _ e fun ds J B1 H1 z1 e1 g1 it => ?_
  obtain ⟨hl, z1⟩ := z1
  intro D hD
  obtain ⟨f1, f2, f3⟩ := e1.toWd.fresh hD
  have nm1 : ∀ i, ¬ MutAt σ ρ i D := fun i m => e1.notNew hD m rfl
  have ei := e1.within nt hnd
  have hmi : ∀ j a, MutAt (List.replicate nt none ++ freeV σ js) (List.replicate nt .no ++ js.map (frS ρ)) j a → ∃ j, j ∈ js ∧ σ[j]? = some (some (V.ref a)) ∧ ρ[j]? = some Sl.bag := fun j a m => by
    have q2 := (ei.mutOk m).2
    rcases m with ⟨m1, z | ⟨es, z⟩⟩ | ⟨c, z, mc⟩
    · obtain ⟨c, c1, c2, _⟩ := ei.bagAt z
      rw [m1] at c1; cases c1
      rcases c2 with c2 | c2
      · exact c2
      · exact absurd c2 q2
    · obtain ⟨c, c1, c2, _⟩ := ei.ownC z
      rw [m1] at c1; cases c1
      exact absurd c2 q2
    · exact absurd ((ei.deepAt z).2.fr a mc).1 q2
  generalize hWW : (fun a => ∃ j, j ∈ js ∧ σ[j]? = some (some (V.ref a)) ∧ ρ[j]? = some Sl.bag) = WW at ei
  have hmi : ∀ j a, MutAt (List.replicate nt none ++ freeV σ js) (List.replicate nt .no ++ js.map (frS ρ)) j a → WW a := fun j a m => by rw [← hWW]; exact hmi j a m
  have hW : ∀ a, WW a → ∃ i : Nat, σ[i]? = some (some (.ref a)) ∧ ρ[i]? = some .bag := fun a z => by
    rw [← hWW] at z
    obtain ⟨j, _, z⟩ := z
    exact ⟨j, z⟩
  have nWD : ¬ WW D := fun z => by
    obtain ⟨i', y1, y2⟩ := hW D z
    exact nm1 i' (.inl ⟨y1, .inl y2⟩)
  refine ⟨fun i m σi H' => ∃ B' ys es ρi, m = ds.length - i ∧ i ≤ ds.length ∧ Ev K H1 WW B' H' σi ρi ∧ Grow H1 B1 B' ∧ H' D = some (.lst ys) ∧ B' D = none ∧ (∀ j a, MutAt σi ρi j a → WW a) ∧ ys.length ≤ i ∧ Reps K B' ys es ∧ compG ug ut u (ds.drop i) ρi fun r => k (es ++ r),
    ⟨ds.length, B1, [], [], _, by simp, Nat.zero_le _, ei.allocH hD _, Grow.refl _ _, upd_same, f3, hmi, Nat.le_refl _, .nil, by simpa using z1⟩, ?_⟩
  rintro i m σi H2 ⟨B2, ys, es, ρi, rfl, hi, e2, g2, hy, hb, hnm, hyl, ry, z2⟩
  obtain ⟨t1, t2, t3⟩ := it H2 (g2.s.trans e2.bh) i
  by_cases hlt : i < ds.length
  · refine .inr ⟨t1 hlt, fun x H' y => ?_⟩
    obtain ⟨rfl, d, hd, rx⟩ := t3 x H' hlt y
    have ed : ds.drop i = d :: ds.drop (i + 1) := by
      rw [List.drop_eq_getElem_cons hlt]
      rw [List.getElem?_eq_getElem hlt] at hd
      rw [Option.some.inj hd]
    rw [ed] at z2
    refine hg d ρi _ z2 H1 WW B2 H' σi x _ e2 (rx.mono g2.s) fun ρ3 σ3 z3 e3 mm => ?_
    have hnm3 : ∀ j a, MutAt σ3 ρ3 j a → WW a := fun j a m => hnm j a (mm j a m)
    have bD : ∀ {B4 : Hp}, Grow H' B2 B4 → B4 D = none := fun {B4} g4 => by
      cases qd : B4 D with
      | none => rfl
      | some o =>
        rcases g4.n D o qd with z | z
        · rw [hb] at z; cases z
        · rw [hy] at z; cases z
    refine ht ρ3 _ z3 H' WW B2 H' σ3 _ (e3.rebase hnm3) fun b B4 H4 z4 e4 g4 => ?_
    have hD4 : H4 D = some (.lst ys) := e4.fr D _ hy nWD
    cases b with
    | false =>
      rw [if_neg Bool.false_ne_true] at z4 ⊢
      obtain ⟨e5, g5⟩ := e3.unbase hnm3 e4 g4
      exact ⟨ds.length - (i + 1), by omega, B4, ys, es, ρ3, rfl, hlt, e5, g2.trans g5, hD4, bD g4, hnm3, by omega, ry.mono g4.s, z4⟩
    | true =>
      rw [if_pos rfl] at z4 ⊢
      refine h1 ρ3 _ z4 H' WW B4 H4 σ3 _ e4 fun y' v B5 H5 z5 e5 g5 s5 => ?_
      have g45 := g4.trans g5
      have hD5 : H5 D = some (.lst ys) := e5.fr D _ hy nWD
      obtain ⟨e6, g6⟩ := e3.unbase hnm3 e5 g45
      refine ⟨ys, hD5, by omega, ds.length - (i + 1), by omega, B5, ys ++ [v], es ++ [y'], ρ3, rfl, hlt, e6.scribble hD (bD g45) (fun j m => nWD (hnm3 j D m)) _, g2.trans g6, upd_same, bD g45, hnm3, by rw [List.length_append, List.length_singleton]; omega, (ry.mono g45.s).append (.cons s5 .nil), ?_⟩
      simpa [List.append_assoc] using z5
  · have eq : i = ds.length := by omega
    subst eq
    rw [List.drop_length] at z2
    obtain ⟨e4, g4⟩ := e1.after hW e2.toWd g2
    refine .inl ⟨t2 (Nat.le_refl _), q _ D ys B2 H2 (by simpa [compG] using z2) e4 (g1.trans g4) f1 hb hy ry nm1⟩
/-! ### the rules -/
/-- the tests of a clause over trees -/
def PIfs3 (X : Cx) (ifs : List Expr) (ut : UT) : Prop := ∃ t, PIfs X ifs t ∧ RefT X.K t ut
theorem ifs_nil : PIfs3 X [] utTrue := ⟨_, pifs_nil, fun ρ k h R W B H σ Q e q => q true B H h e (Grow.refl _ _)⟩
/-- one reading for all contexts -/
theorem joinE {elt : Expr} {α : Type} {Xs : α → Cx} (hK : ∀ a, (Xs a).K = K) (h : ∀ a, PE3 (Xs a) elt u) : ∃ t, (∀ a, PE (Xs a) elt t) ∧ RefE K t u := by
  refine ⟨fun σ H Q => ∀ a, ∃ t, PE (Xs a) elt t ∧ RefE K t u ∧ t σ H Q, fun a pins s σ H Q I q => ?_, fun ρ k q R W B H σ Q e z a => ?_⟩
  · obtain ⟨t, ht, _, hq⟩ := q a
    exact ht pins s σ H Q I hq
  · obtain ⟨t, ht, hr⟩ := h a
    rw [hK a] at hr
    exact ⟨t, ht, hr, hr ρ k q R W B H σ Q e z⟩
theorem joinI {ifs : List Expr} {ut : UT} {α : Type} {Xs : α → Cx} (hK : ∀ a, (Xs a).K = K) (h : ∀ a, PIfs3 (Xs a) ifs ut) : ∃ t, (∀ a, PIfs (Xs a) ifs t) ∧ RefT K t ut := by
  refine ⟨fun σ H Q => ∀ a, ∃ t, PIfs (Xs a) ifs t ∧ RefT K t ut ∧ t σ H Q, fun a pins s σ H Q I q => ?_, fun ρ k q R W B H σ Q e z a => ?_⟩
  · obtain ⟨t, ht, _, hq⟩ := q a
    exact ht pins s σ H Q I hq
  · obtain ⟨t, ht, hr⟩ := h a
    rw [hK a] at hr
    exact ⟨t, ht, hr, hr ρ k q R W B H σ Q e z⟩
theorem joinG {tg : Expr} {ug : UG} {α : Type} {Xs : α → Cx} (hK : ∀ a, (Xs a).K = K) (h : ∀ a, PG3 (Xs a) tg ug) : ∃ t, (∀ a, PG (Xs a) tg t) ∧ RefG K t ug := by
  refine ⟨fun v σ H Q => ∀ a, ∃ t, PG (Xs a) tg t ∧ RefG K t ug ∧ t v σ H Q, fun a pins s σ H v x Q I r q => ?_, fun d ρ k q R W B H σ v Q e r z a => ?_⟩
  · obtain ⟨t, ht, _, hq⟩ := q a
    exact ht pins s σ H v x Q I r hq
  · obtain ⟨t, ht, hr⟩ := h a
    rw [hK a] at hr
    exact ⟨t, ht, hr, hr d ρ k q R W B H σ v Q e r z⟩
variable {elt iter tg : Expr} {ifs : List Expr} {scope : Scope} {cl : List (Str × Addr)} {ts fr : List Str} {js : List Nat} {ug : UG} {ut : UT}
theorem o_compG (hi : PI3 X tg iter w) (hg : ∀ C s H ex, PG3 (compCx X (ts ++ fr) scope cl C s H ex) tg ug) (hts : ∀ C s H ex, PIfs3 (compCx X (ts ++ fr) scope cl C s H ex) ifs ut) (helt : ∀ C s H ex, PE3 (compCx X (ts ++ fr) scope cl C s H ex) elt u)
    (F : FreeOk X scope cl fr js) (hjn : js.Nodup := by decide) (hc : X.calm = true := by rfl) (hs : ∀ v, foldedSetIterable iter X.env v = pure v := by intro _; rfl) : PO3 X (.ListComp elt [⟨tg, iter, ifs, 0⟩] scope pos) (uCompG w ug ut u ts.length js) := by
  obtain ⟨_, h0, r0⟩ := hi
  obtain ⟨tg', hg', rg⟩ := joinG (K := X.K) (Xs := fun a : Addr × Shared × Hp × List Addr => compCx X (ts ++ fr) scope cl a.1 a.2.1 a.2.2.1 a.2.2.2) (fun _ => rfl) fun a => hg a.1 a.2.1 a.2.2.1 a.2.2.2
  obtain ⟨tt, ht', rt⟩ := joinI (K := X.K) (Xs := fun a : Addr × Shared × Hp × List Addr => compCx X (ts ++ fr) scope cl a.1 a.2.1 a.2.2.1 a.2.2.2) (fun _ => rfl) fun a => hts a.1 a.2.1 a.2.2.1 a.2.2.2
  obtain ⟨te, he', re⟩ := joinE (K := X.K) (Xs := fun a : Addr × Shared × Hp × List Addr => compCx X (ts ++ fr) scope cl a.1 a.2.1 a.2.2.1 a.2.2.2) (fun _ => rfl) fun a => helt a.1 a.2.1 a.2.2.1 a.2.2.2
  exact ⟨_, pe_compG h0 (fun C s H ex => hg' (C, s, H, ex)) (fun C s H ex => ht' (C, s, H, ex)) (fun C s H ex => he' (C, s, H, ex)) F hc hs, refCompG r0 rg rt re hjn⟩
/-- name = a comprehension, the name a plain local: as a list of one's own -/
theorem s_compA {i : Nat} {y : Str} {py spos : Pos} (hN : X.N.Nodup) (hiN : X.N[i]? = some y) (hy : X.env.scope.names.lookup y = some .local)
    (hi : PI3 X tg iter w) (hg : ∀ C s H ex, PG3 (compCx X (ts ++ fr) scope cl C s H ex) tg ug) (hts : ∀ C s H ex, PIfs3 (compCx X (ts ++ fr) scope cl C s H ex) ifs ut) (helt : ∀ C s H ex, PE3 (compCx X (ts ++ fr) scope cl C s H ex) elt u)
    (F : FreeOk X scope cl fr js) (hjn : js.Nodup := by decide) (hc : X.calm = true := by rfl) (hs : ∀ v, foldedSetIterable iter X.env v = pure v := by intro _; rfl)
    (hsw : swapsWith (.ListComp elt [⟨tg, iter, ifs, 0⟩] scope pos) (some (.Name y py)) spos.line X.env = pure true := by rfl) :
    PS3 X (.Assign [.Name y py] (.ListComp elt [⟨tg, iter, ifs, 0⟩] scope pos) spos) (uSetO i (uCompG w ug ut u ts.length js)) := by
  obtain ⟨_, h0, r0⟩ := hi
  obtain ⟨tg', hg', rg⟩ := joinG (K := X.K) (Xs := fun a : Addr × Shared × Hp × List Addr => compCx X (ts ++ fr) scope cl a.1 a.2.1 a.2.2.1 a.2.2.2) (fun _ => rfl) fun a => hg a.1 a.2.1 a.2.2.1 a.2.2.2
  obtain ⟨tt, ht', rt⟩ := joinI (K := X.K) (Xs := fun a : Addr × Shared × Hp × List Addr => compCx X (ts ++ fr) scope cl a.1 a.2.1 a.2.2.1 a.2.2.2) (fun _ => rfl) fun a => hts a.1 a.2.1 a.2.2.1 a.2.2.2
  obtain ⟨te, he', re⟩ := joinE (K := X.K) (Xs := fun a : Addr × Shared × Hp × List Addr => compCx X (ts ++ fr) scope cl a.1 a.2.1 a.2.2.1 a.2.2.2) (fun _ => rfl) fun a => helt a.1 a.2.1 a.2.2.1 a.2.2.2
  refine ⟨_, ps_compA hN hiN hy h0 (fun C s H ex => hg' (C, s, H, ex)) (fun C s H ex => ht' (C, s, H, ex)) (fun C s H ex => he' (C, s, H, ex)) F hc hs hsw, fun U ρ h R W B H σ D e s => ?_⟩
  exact refCompG r0 rg rt re hjn ρ _ h R W B H σ _ e fun ds a vs B1 H1 z1 e1 g1 f1 f2 f3 f4 f5 => s.nx _ _ B1 H1 z1 (e1.setO i f1 f2 f3 f4 fun j _ => f5 j) g1
/-- the own list in slot i goes over to what stays, behind a statement -/
theorem s_thenFz {st : Stmt} {s : US} (i : Nat) (h : PS3 X st s) : PS3 X st (fun U ρ => s { U with nx := fun ρ' => ∃ ds : List D, ρ'[i]? = some (.own ds) ∧ U.nx (ρ'.set i (.val (.lst ds))) } ρ) := by
  obtain ⟨_, h1, r1⟩ := h
  refine ⟨_, h1, fun U ρ h R W B H σ D e sm => ?_⟩
  refine r1 _ ρ h R W B H σ D e ⟨fun ρ' σ' B' H' z e' g => ?_, sm.bk, sm.ct, sm.rt⟩
  obtain ⟨ds, ho, z⟩ := z
  obtain ⟨B2, e2, g2⟩ := e'.fz ho
  exact sm.nx _ σ' B2 H' z e2 (g.trans g2)
end
end L3

/-! Comprehensions whose own names are read by a comprehension within them: cells of their own. -/
namespace L2
open PySem PySem.Spec PyProof.Rows
section
variable {X : Cx}
end
end L2
namespace L3
open PySem L2
section
variable {K : PySem.W.Frag} {X : Cx} {e : Expr} {es : List Expr} {u : UE} {w : UL} {pos p : Pos}
variable {elt iter tg : Expr} {ifs : List Expr} {scope : Scope} {ts : List Str} {ug : UG} {ut : UT}
end
end L3

/-! Loops and comprehensions over lists of one kind. -/
namespace L3
open PySem L2
theorem forR_map {α : Type} {f : α → D} {s : US} {U : UEnds} {m : Nat} (I : List α → List Sl → Prop) : ∀ {rs done : List α} {ρ : List Sl}, I done ρ →
    (∀ (pre : List α) (r : α) (rest : List α) ρ, done ++ rs = pre ++ r :: rest → I pre ρ → ∀ N : List Sl → Prop, (∀ r', I (pre ++ [r]) r' → N r') → s { U with nx := N, ct := N, bk := U.nx } (ρ.set m (.val (f r)))) → (∀ ρ, I (done ++ rs) ρ → U.nx ρ) → forR (ugName m) s U (rs.map f) ρ
  | [], done, ρ, h0, _, h2 => h2 ρ (by rw [List.append_nil]; exact h0)
  | r :: rs, done, ρ, h0, h1, h2 => by
    refine h1 done r rs ρ rfl h0 _ fun r' hr => ?_
    have e : done ++ r :: rs = (done ++ [r]) ++ rs := by simp
    rw [e] at h1 h2
    exact forR_map I hr h1 h2
theorem forR_rng0 {s : US} {U : UEnds} {m : Nat} (I : Nat → List Sl → Prop) : ∀ {n i : Nat} {ρ : List Sl}, I i ρ → (∀ (j : Nat) ρ, i ≤ j → j < i + n → I j ρ → ∀ N : List Sl → Prop, (∀ r, I (j + 1) r → N r) → s { U with nx := N, ct := N, bk := U.nx } (ρ.set m (.val (.int j)))) →
    (∀ ρ, I (i + n) ρ → U.nx ρ) → forR (ugName m) s U ((List.range' i n).map fun j : Nat => D.int j) ρ
  | 0, i, ρ, h0, _, h2 => h2 ρ h0
  | n + 1, i, ρ, h0, h1, h2 => by
    show forR (ugName m) s U (D.int i :: (List.range' (i + 1) n).map fun j : Nat => D.int j) ρ
    refine h1 i ρ (Nat.le_refl _) (by omega) h0 _ fun r hr => ?_
    exact forR_rng0 I hr (fun j ρ hj hj2 => h1 j ρ (by omega) (by omega)) fun ρ h => h2 ρ (by rw [show i + (n + 1) = i + 1 + n by omega]; exact h)
theorem forR_rng {s : US} {U : UEnds} {m n : Nat} {ρ : List Sl} (I : Nat → List Sl → Prop) (h0 : I 0 ρ) (h1 : ∀ (j : Nat) ρ, j < n → I j ρ → ∀ N : List Sl → Prop, (∀ r, I (j + 1) r → N r) → s { U with nx := N, ct := N, bk := U.nx } (ρ.set m (.val (.int j))))
    (h2 : ∀ ρ, I n ρ → U.nx ρ) : forR (ugName m) s U ((List.range n).map fun j : Nat => D.int j) ρ := by
  rw [List.range_eq_range']
  exact forR_rng0 I h0 (fun j ρ _ hj => h1 j ρ (by omega)) fun ρ h => h2 ρ (by rw [Nat.zero_add] at h; exact h)
theorem compG_map {α : Type} {f h : α → D} {u : UE} {fs : List Sl} : ∀ {rs : List α} {v0 : Sl} {k : List D → Prop}, (∀ r ∈ rs, ∀ k : D → Prop, k (h r) → u (.val (f r) :: fs) k) → k (rs.map h) → compG (ugName 0) utTrue u (rs.map f) (v0 :: fs) k
  | [], v0, k, _, hk => hk
  | r :: rs, v0, k, hu, hk => by
    show (if true = true then u (.val (f r) :: fs) fun y => compG (ugName 0) utTrue u (rs.map f) (.val (f r) :: fs) fun ys => k (y :: ys) else compG (ugName 0) utTrue u (rs.map f) (.val (f r) :: fs) k)
    rw [if_pos rfl]
    exact hu r List.mem_cons_self _ (compG_map (fun q hq => hu q (List.mem_cons_of_mem _ hq)) hk)
end L3

namespace L3
open PySem L2
section
variable {K : PySem.W.Frag} {R : Hp} {W : Addr → Prop} {B B' H H' : Hp} {σ : St} {ρ : List Sl}
end
section
variable {X : Cx} {F : FS} {pos p : Pos} {a0 : Expr}
end
section
variable {X : Cx} {e : Expr} {u : UE} {pos p : Pos}
end
end L3

namespace L3
open PySem L2
section
variable {X : Cx} {e : Expr} {u : UE} {pos p : Pos}
end
section
variable {K : PySem.W.Frag}
end
end L3

namespace Cut
open PySem L2 L3
open PySem.Builtin.Int (intBits)
def dR (r : Int × Int) : D := .tup [.int r.1, .int r.2]
def dP (p : Int × Int × Int) : D := .tup [.int p.1, .int p.2.1, .int p.2.2]
def gsg (t b : Int) : Int := if b < 0 then -((Int.gcd t b : Nat) : Int) else ((Int.gcd t b : Nat) : Int)
def nrat (t b : Int) : Int × Int := (t.fdiv (gsg t b), b.fdiv (gsg t b))
theorem nrat_spec {t b : Int} (hb : b ≠ 0) : Low (nrat t b).1 (nrat t b).2 ∧ (nrat t b).1 * b = t * (nrat t b).2 ∧ (nrat t b).1.natAbs ≤ t.natAbs ∧ (nrat t b).2.natAbs ≤ b.natAbs := by
  unfold nrat gsg
  split
  · exact low_of hb rfl (.inr ⟨rfl, by assumption⟩)
  · exact low_of hb rfl (.inl ⟨rfl, by omega⟩)
def g3 (a b n : Int) : Int := ((Int.gcd (Int.gcd a n : Nat) b : Nat) : Int)
def gsp (a b n : Int) : Int := if n < 0 then -g3 a b n else g3 a b n
def npt (a b n : Int) : Int × Int × Int := (a.fdiv (gsp a b n), b.fdiv (gsp a b n), n.fdiv (gsp a b n))
theorem npt_spec {a b n : Int} (hn : n ≠ 0) : Pt (npt a b n).1 (npt a b n).2.1 (npt a b n).2.2 ∧ (npt a b n).1 * n = a * (npt a b n).2.2 ∧ (npt a b n).2.1 * n = b * (npt a b n).2.2 ∧ (npt a b n).1.natAbs ≤ a.natAbs ∧ (npt a b n).2.1.natAbs ≤ b.natAbs ∧ (npt a b n).2.2.natAbs ≤ n.natAbs := by
  unfold npt gsp
  split
  · exact pt_of hn rfl (.inr ⟨rfl, by assumption⟩)
  · exact pt_of hn rfl (.inl ⟨rfl, by omega⟩)
theorem g3_an (a b n : Int) : ((Int.gcd (Int.gcd a n : Nat) b : Nat) : Int) = g3 a b n := rfl
theorem g3_pos {a b n : Int} (hn : n ≠ 0) : 0 < g3 a b n := gcd3_pos hn
theorem g3_bits {a b n : Int} {k : Nat} (hn : n ≠ 0) (h : intBits n ≤ k) : intBits (g3 a b n) ≤ k := gcd3_bits hn h
theorem gcd_bits {a b : Int} {k : Nat} (hb : b ≠ 0) (h : intBits b ≤ k) : intBits ((Int.gcd a b : Nat) : Int) ≤ k := by
  refine intBits_le_of_natAbs ?_ h
  exact Nat.le_of_dvd (by omega) (by simpa using Int.natAbs_dvd_natAbs.mpr (Int.gcd_dvd_right a b))
theorem bits30 {x : Int} (h0 : -(10 ^ 30) < x) (h1 : x < 10 ^ 30) : intBits x ≤ 100 := by
  refine intBits_le_iff.mpr ?_
  have e30 : (10 : Int) ^ 30 = 1000000000000000000000000000000 := rfl
  have e100 : (2 : Nat) ^ 100 = 1267650600228229401496703205376 := rfl
  rw [e30] at h0 h1
  rw [e100]
  omega
theorem fdiv_of {a s x : Int} (h : a = s * x) (s0 : s ≠ 0) : a.fdiv s = x := by rw [h]; exact Int.mul_fdiv_cancel_left x s0
theorem gcd_fac {a b s x y : Int} (h1 : a = s * x) (h2 : b = s * y) : Int.gcd a b = s.natAbs * Int.gcd x y := by rw [h1, h2, Int.gcd_mul_left]
theorem nrat_neg {t b : Int} (hb : b ≠ 0) : nrat (-t) (-b) = nrat t b := by
  obtain ⟨l1, e1, _⟩ := nrat_spec (t := -t) (b := -b) (by omega)
  obtain ⟨l2, e2, _⟩ := nrat_spec (t := t) hb
  have e : (nrat (-t) (-b)).1 * (nrat t b).2 = (nrat t b).1 * (nrat (-t) (-b)).2 := by
    refine Int.eq_of_mul_eq_mul_right hb ?_
    grind
  obtain ⟨a, c⟩ := low_uniq l1 l2 e
  exact Prod.ext a c
theorem nrat_cross {a b c d : Int} (hb : b ≠ 0) (hd : d ≠ 0) (h : a * d = c * b) : nrat a b = nrat c d := by
  obtain ⟨l1, e1, _⟩ := nrat_spec (t := a) hb
  obtain ⟨l2, e2, _⟩ := nrat_spec (t := c) hd
  have e : (nrat a b).1 * (nrat c d).2 = (nrat c d).1 * (nrat a b).2 := by
    refine Int.eq_of_mul_eq_mul_right (Int.mul_ne_zero hb hd) ?_
    grind
  obtain ⟨x, y⟩ := low_uniq l1 l2 e
  exact Prod.ext x y
theorem nrat_low {x y : Int} (h : Low x y) : nrat x y = (x, y) := by
  obtain ⟨l, e, _⟩ := nrat_spec (t := x) (Int.ne_of_gt h.1)
  obtain ⟨a, b⟩ := low_uniq l h e
  exact Prod.ext a b
end Cut

namespace Cut
open PySem L2 L3
open PySem.Builtin.Int (intBits)
end Cut
namespace Cut
open PySem L2 L3
open PySem.Builtin.Int (intBits)
end Cut

namespace Cut
open PySem L2 L3
open PySem.Builtin.Int (intBits)
end Cut

/-! list(zip(a, b)): zip keeps its tuple no more once one of them is held. -/
namespace PySem
open Sem (wp)
section
variable {prog : Program} {w : World} {A : Around} {E : Value → Shared → Prop} {s : Shared}
end
section
variable {prog : Program} {w : World} {A : Around} {R : Result → Shared → Prop}
end
section
variable {prog : Program} {w : World} {A : Around} {E : Value → Shared → Prop} {s : Shared}
end
end PySem
namespace L2
open PySem PySem.Spec PyProof.Rows PySem.W
section
variable {X : Cx}
end
end L2

namespace L3
open PySem L2
section
variable {K : PySem.W.Frag} {R : Hp} {W : Addr → Prop} {σ : St} {ρ : List Sl}
end
section
variable {X : Cx} {e1 e2 : Expr} {ua ub : UE}
end
end L3

namespace L2
open PySem PySem.Spec PyProof.Rows PySem.W
theorem rev_take (its : List Value) : ∀ m, m ≤ its.length → (List.range m).filterMap (fun k => its[its.length - 1 - k]?) = its.reverse.take m
  | 0, _ => rfl
  | m + 1, h => by
    rw [List.range_succ, List.filterMap_append, rev_take its m (by omega), List.take_add_one, List.getElem?_reverse (by omega)]
    congr 1
theorem slicePick_rev (its : List Value) : slicePick its.toArray none none (some (-1)) = its.reverse.toArray := by
  have hb : sliceBounds none none (some (-1)) its.toArray.size = ((its.length : Int) - 1, -1, -1) := by simp [sliceBounds]
  unfold slicePick
  rw [hb]
  have hr : sliceRange ((its.length : Int) - 1) (-1) (-1) = (List.range its.length).map fun k => its.length - 1 - k := by
    unfold sliceRange
    have c : (if (-1 : Int) > 0 then (if (its.length : Int) - 1 < -1 then (-1 - ((its.length : Int) - 1) + -1 - 1) / -1 else 0) else (if (its.length : Int) - 1 > -1 then ((its.length : Int) - 1 - -1 - -1 - 1) / (- -1) else 0)) = (its.length : Int) := by
      rw [if_neg (by decide)]
      split
      · rw [show (- -1 : Int) = 1 by decide, Int.ediv_one]; omega
      · omega
    simp only [c, Int.toNat_natCast]
    refine List.map_congr_left fun k hk => ?_
    omega
  simp only [hr, List.filterMap_map]
  have := rev_take its its.length (Nat.le_refl _)
  rw [List.take_of_length_le (by simp)] at this
  rw [← this]
  have e : ((fun x => its.toArray[x]?) ∘ fun k => its.length - 1 - k) = fun k => its[its.length - 1 - k]? := by
    funext k
    simp
  rw [e]
section
variable {X : Cx} {e st : Expr} {te ts : TE} {p2 pos : Pos}
/-- xs[::-1] of a list: a new list -/
def tRev (te ts : TE) (K : PySem.W.Frag) : TE := fun σ H Q => te σ H fun x H1 => ts σ H1 fun i H2 => i = .int (-1) ∧ ∃ a xs, x = .ref a ∧ SqL K H2 a xs ∧ ∀ p, H2 p = none → Q (.ref p) (upd H2 p (.lst xs.reverse))
theorem pe_rev (he : PE X e te) (hs : PE X st ts) : PE X (.Subscript e (.Slice none none (some st) p2) pos) (tRev te ts X.K) := by
  intro pins s σ H Q I h
  refine Subscript_ (thn (he pins s σ H _ I h) fun v s1 ⟨x, H1, I1, r1, q1⟩ => ?_)
  refine wpAny_Slice ?_
  rw [evalPart_none]
  refine wpAny_pure ?_
  refine wpAny_pure ?_
  rw [evalPart_some]
  refine thn (hs pins s1 σ H1 _ I1 q1) fun u s3 ⟨i, H3, I3, ri, q3⟩ => ?_
  obtain ⟨rfl, a, xs, rfl, hx, q⟩ := q3
  obtain ⟨tk, rfl⟩ := ri
  cases r1
  have I4 : Inv X pins σ H3 { s3 with heap := s3.heap.push { cls := .type "slice", data := .fields #[.none, .none, .int (-1) tk] } } := I3.kept (t' := s3.toks) fun b ob q => Heap.get?_push_of_some _ q
  obtain ⟨its, r, ht, hz⟩ := I4.list hx
  have hlen := r.length
  show wpAny (model X.prog X.w) X.A (subscriptTail e (.Slice none none (some st) p2) (.ref a) (.ref s3.heap.objs.size)) (EP X pins σ Q) X.xe { s3 with heap := s3.heap.push { cls := .type "slice", data := .fields #[.none, .none, .int (-1) tk] } }
  refine tail_any (ops := [.ref a, .ref s3.heap.objs.size]) ht.isList.typeIs slot_list_getitem.lookup ?_ (by with_unfolding_all rfl)
  refine wpAny_getItem_list_slice (st := some (-1)) ht.isList (Heap.IsSliceOf.new ..) .none .none (.int _ _) (by simp) ?_ (by rw [List.size_toArray] <;> omega)
  rw [slicePick_rev]
  refine ⟨.ref _, _, I4.laid (t' := s3.toks) (o := .lst xs.reverse) (fun b ob q => Heap.get?_push_of_some _ q) (Nat.le_refl _) ?_, rfl, q _ (I4.hok.fresh (Nat.le_refl _))⟩
  exact ⟨by rw [List.length_reverse]; exact hz, _, 0, r.reverse, Heap.get?_push_size _ rfl⟩
end
end L2
namespace L3
open PySem L2
section
variable {X : Cx} {e st : Expr} {u us : UE} {p2 pos : Pos}
theorem Reps.reverse {K : PySem.W.Frag} {B : Hp} : ∀ {vs : List V} {ds : List D}, Reps K B vs ds → Reps K B vs.reverse ds.reverse
  | _, _, .nil => .nil
  | _, _, .cons h r => by
    rw [List.reverse_cons, List.reverse_cons]
    exact (Reps.reverse r).append (.cons h .nil)
/-- xs[::-1] -/
def uRev (u us : UE) : UL := fun ρ k => u ρ fun x => us ρ fun i => i = .int (-1) ∧ ∃ ds, itemsD x = some ds ∧ k ds.reverse
theorem o_rev (he : PE3 X e u) (hs : PE3 X st us) : PO3 X (.Subscript e (.Slice none none (some st) p2) pos) (uRev u us) := by
  obtain ⟨_, h1, r1⟩ := he; obtain ⟨_, h2, r2⟩ := hs
  refine ⟨_, pe_rev h1 h2, fun ρ k h R W B H σ Q e q => ?_⟩
  refine r1 ρ _ h R W B H σ _ e fun d v B1 H1 z1 e1 g1 s1 => ?_
  refine r2 ρ _ z1 R W B1 H1 σ _ e1 fun i iv B2 H2 z2 e2 g2 s2 => ?_
  obtain ⟨rfl, ds, hd, z⟩ := z2
  obtain ⟨a, vs, rfl, ha, rs⟩ := itemsD_ok e2.bh (s1.mono g2.s) hd
  refine ⟨s2.intV, a, vs, rfl, ha, fun p hp => ?_⟩
  obtain ⟨f1, f2, f3, f4, f5⟩ := e2.newO hp rs.reverse
  exact q _ p _ B2 _ z f1 (g1.trans g2) f2 f3 f4 rs.reverse f5
end
end L3

namespace Cut
open PySem L2 L3
open PySem.Builtin.Int (intBits)
end Cut
namespace Cut
open PySem L2 L3
open PySem.Builtin.Int (intBits)
end Cut
namespace Cut
open PySem L2 L3
open PySem.Builtin.Int (intBits)
end Cut

/-! is None; try: return f(..) / except C: return None -/
namespace L2
open PySem PySem.Spec PyProof.Rows PySem.W
section
variable {X : Cx} {pins : List (Addr × Obj)} {σ : St} {H : Hp} {s : Shared}
end
end L2
namespace L3
open PySem L2 PySem.W
def isNon : D → Bool
  | .non => true
  | _ => false
section
variable {X : Cx} {a b : Expr} {ua ub : UE} {pos : Pos}
def uIsN (ua ub : UE) : UE := fun ρ k => ua ρ fun x => ub ρ fun y => y = .non ∧ k (.bl (isNon x))
theorem refIsN {K : PySem.W.Frag} {ta tb : TE} (r1 : RefE K ta ua) (r2 : RefE K tb ub) : RefE K (tOp (fun x y H Q => y = .non ∧ Q (.bl (decide (x = .non))) H) ta tb) (uIsN ua ub) := by
  refine ref2 (f := fun x y k => y = .non ∧ k (.bl (isNon x))) r1 r2 fun x y k h R W B H σ ρ v w Q e rx ry q => ?_
  obtain ⟨rfl, hk⟩ := h
  have e1 : w = .non := by cases ry; rfl
  have e2 : decide (v = V.non) = isNon x := by cases rx <;> simp [isNon]
  refine ⟨e1, ?_⟩
  rw [e2]
  exact q _ _ B H hk e (Grow.refl _ _) (.bl _)
theorem t_isN (ha : PE3 X a ua) (hb : PE3 X b ub) (hm : behindInMarks .Is b = false) : PT3 X (.Compare a [.Is] [b] pos) (uB (uIsN ua ub)) := by
  obtain ⟨_, h1, r1⟩ := ha; obtain ⟨_, h2, r2⟩ := hb
  exact ⟨_, pt_cmpR op_isN h1 h2 hm, refB (refIsN r1 r2)⟩
end
end L3

namespace L2
open PySem PySem.Spec PyProof.Rows
section
variable {X : Cx} {pos : Pos}
end
end L2
namespace L3
open PySem L2
section
variable {X : Cx} {w : UL} {pos : Pos}
end
end L3

/-! Tests over lists of one's own as they stand; trees all of whose lists are new; a scope at whose end they are emptied. -/
namespace L3
open PySem L2
section
variable {K : PySem.W.Frag} {R : Hp} {W : Addr → Prop} {B B' H H' : Hp} {σ : St} {ρ : List Sl}
end
section
variable {K : PySem.W.Frag} {X : Cx} {e : Expr} {es : List Expr} {u : UE} {w : UL} {pos p : Pos}
variable {elt iter tg : Expr} {ifs : List Expr} {scope : Scope} {cl : List (Str × Addr)} {ts fr : List Str} {js : List Nat} {ug : UG} {ut : UT}
end
end L3

/-! Lists emptied: one's own, and all of a new tree's at the end of a scope. -/
namespace L3
open PySem L2
section
variable {K : PySem.W.Frag} {X : Cx} {e : Expr} {es : List Expr} {u : UE} {w : UL} {pos p : Pos} {I : List Nat} {i : Nat} {rest : List Stmt} {uz : UEnds → List Sl → D → List Sl → Prop}
theorem atI_zero {α : Type} {x : α} {r : List α} : atI (x :: r) 0 = some x := by simp [atI, ixN]
end
end L3

/-! Lists of one's own emptied; a new piece's ring emptied. -/
namespace L3
open PySem L2
section
variable {K : PySem.W.Frag} {X : Cx} {e : Expr} {es : List Expr} {u : UE} {w : UL} {pos p : Pos} {i : Nat} {rest : List Stmt}
end
end L3

namespace L2
open PySem PySem.Spec PyProof.Rows PySem.W
section
variable {X : Cx} {e st : Expr} {te ts : TE} {p2 pos : Pos}
end
end L2
namespace L3
open PySem L2
section
variable {X : Cx} {e st : Expr} {u us : UE} {p2 pos p : Pos} {F : FS} {a0 : Expr}
end
end L3

/-! A tuple of the program's own names, read. -/
namespace L3
open PySem L2
section
variable {X : Cx} {a b : Expr} {ua ub : UE} {pos : Pos}
end
end L3

/-! The head by hand: all objects of the heap behind the top, seen by names; no list of them is written out. -/
namespace L3
open PySem PySem.W L2
section
variable {x : Str} {st : Stmt}
end
end L3

/-! A list unpacked to names. -/
namespace L2
open PySem PySem.Spec PyProof.Rows PySem.W
section
variable {prog : Program} {w : World} {A : Around} {E : Value → Shared → Prop} {s : Shared}
end
section
variable {X : Cx} {pos : Pos}
end
end L2
namespace L3
open PySem L2
section
variable {X : Cx} {es : List Expr} {pos : Pos}
end
end L3

namespace Cut
open PySem L2 L3
open PySem.Builtin.Int (intBits)
end Cut

namespace Cut
open PySem L2 L3
open PySem.Builtin.Int (intBits)
theorem cop_of {a b : Int} (h : ∀ k : Int, k ∣ a → k ∣ b → k ∣ 1) : Int.gcd a b = 1 := by
  have q := Int.natAbs_dvd_natAbs.mpr (h _ (Int.gcd_dvd_left a b) (Int.gcd_dvd_right a b))
  simpa using q
theorem cop_out {a b k : Int} (g : Int.gcd a b = 1) (h1 : k ∣ a) (h2 : k ∣ b) : k ∣ 1 := by
  have := Int.dvd_coe_gcd h1 h2
  rw [g] at this
  exact this
theorem dvd_co' {k n m : Int} (h : k ∣ n * m) (g : Int.gcd k m = 1) : k ∣ n := dvd_co (by rw [Int.mul_comm]; exact h) g
theorem cop_sub {a b k : Int} (g : Int.gcd a b = 1) (h : k ∣ a) : Int.gcd k b = 1 := cop_of fun j h1 h2 => cop_out g (Int.dvd_trans h1 h) h2
theorem nrat_eq {x y t b : Int} (l : Low x y) (hb : b ≠ 0) (e : x * b = t * y) : nrat t b = (x, y) := by
  rw [← nrat_low l]
  exact nrat_cross hb (Int.ne_of_gt l.1) e.symm
theorem npt_eq {x y z a b n : Int} (p : Pt x y z) (hn : n ≠ 0) (e1 : x * n = a * z) (e2 : y * n = b * z) : npt a b n = (x, y, z) := by
  obtain ⟨q, f1, f2, _⟩ := npt_spec (a := a) (b := b) hn
  obtain ⟨h1, h2, h3⟩ := pt_uniq q p (Int.eq_of_mul_eq_mul_right hn (by grind)) (Int.eq_of_mul_eq_mul_right hn (by grind))
  exact Prod.ext h1 (Prod.ext h2 h3)
theorem gcd_parts {a b : Int} (h : a ≠ 0 ∨ b ≠ 0) : ∃ x y : Int, a = ((Int.gcd a b : Nat) : Int) * x ∧ b = ((Int.gcd a b : Nat) : Int) * y ∧ Int.gcd x y = 1 := by
  obtain ⟨x, hx⟩ := Int.gcd_dvd_left a b
  obtain ⟨y, hy⟩ := Int.gcd_dvd_right a b
  refine ⟨x, y, hx, hy, ?_⟩
  have pos : 0 < Int.gcd a b := by
    rcases h with h | h
    · exact Int.gcd_pos_of_ne_zero_left b h
    · exact Int.gcd_pos_of_ne_zero_right a h
  have q : Int.gcd a b = (((Int.gcd a b : Nat) : Int)).natAbs * Int.gcd x y := gcd_fac hx hy
  rw [Int.natAbs_natCast] at q
  exact Nat.eq_of_mul_eq_mul_left pos (by omega)
theorem gcd_ne {a b : Int} (h : a ≠ 0 ∨ b ≠ 0) : ((Int.gcd a b : Nat) : Int) ≠ 0 := by
  have pos : 0 < Int.gcd a b := by
    rcases h with h | h
    · exact Int.gcd_pos_of_ne_zero_left b h
    · exact Int.gcd_pos_of_ne_zero_right a h
  omega
theorem gcd_pos2 {a b : Int} (h : a ≠ 0 ∨ b ≠ 0) : 0 < ((Int.gcd a b : Nat) : Int) := by
  have := gcd_ne h
  omega
theorem pos_r {s y : Int} (s0 : 0 < s) (h : 0 < s * y) : 0 < y := Int.pos_of_mul_pos_right h s0
theorem pt_cop {x y z : Int} (h : ∀ k : Int, k ∣ x → k ∣ y → k ∣ z → k ∣ 1) : Int.gcd (Int.gcd x y : Nat) z = 1 :=
  cop_of fun k h1 h2 => h k (Int.dvd_trans h1 (Int.gcd_dvd_left x y)) (Int.dvd_trans h1 (Int.gcd_dvd_right x y)) h2
theorem at_low {x y u v : Int} (l1 : Low x y) (l2 : Low u v) :
    (x * v.fdiv ((Int.gcd y v : Nat) : Int), u * y.fdiv ((Int.gcd y v : Nat) : Int), y.fdiv ((Int.gcd y v : Nat) : Int) * v) = npt (x * v) (u * y) (y * v) := by
  obtain ⟨y0, g1⟩ := l1
  obtain ⟨v0, g2⟩ := l2
  obtain ⟨Y, V, hY, hV, gYV⟩ := gcd_parts (a := y) (b := v) (.inl (Int.ne_of_gt y0))
  have s0 := gcd_pos2 (a := y) (b := v) (.inl (Int.ne_of_gt y0))
  generalize ((Int.gcd y v : Nat) : Int) = s at *
  rw [fdiv_of hV (Int.ne_of_gt s0), fdiv_of hY (Int.ne_of_gt s0)]
  have Y0 : 0 < Y := pos_r s0 (by omega)
  refine (npt_eq ⟨Int.mul_pos Y0 v0, ?_⟩ (Int.ne_of_gt (Int.mul_pos y0 v0)) ?_ ?_).symm
  · refine pt_cop fun k h1 h2 h3 => ?_
    have c1 : Int.gcd k Y = 1 := cop_of fun j j1 j2 => cop_out g1 (dvd_co' (Int.dvd_trans j1 h1) (cop_sub gYV j2)) (by rw [hY]; exact Int.dvd_mul_of_dvd_right j2)
    have c2 : Int.gcd k V = 1 := cop_of fun j j1 j2 => cop_out g2 (dvd_co' (Int.dvd_trans j1 h2) (cop_sub (by rw [Int.gcd_comm]; exact gYV) j2)) (by rw [hV]; exact Int.dvd_mul_of_dvd_right j2)
    have h4 : k ∣ u := dvd_co' h2 c1
    have h5 : k ∣ v := dvd_co h3 c1
    exact cop_out g2 h4 h5
  · grind
  · grind
end Cut

namespace Cut
open PySem L2 L3
open PySem.Builtin.Int (intBits)
end Cut

namespace Cut
open PySem L2 L3
open PySem.Builtin.Int (intBits)
end Cut

namespace Cut
open PySem L2 L3
open PySem.Builtin.Int (intBits)
section
variable {w h : Int × Int}
end
section
variable {w h : Int × Int}
end
section
variable {s w h : Int × Int}
end
end Cut

/-! Texts: what the library says of them, over values. -/
namespace L2
open PySem PySem.Spec PyProof.Rows PySem.W
section
variable {X : Cx}
theorem call_int_text : CallR X (.type "int") (fun xs H Q => ∃ x n, xs = [.str x] ∧ PySem.intText? x = some n ∧ x.length ≤ 640 ∧ Q (.int n) H) := by
  intro pins s σ H xs us Q I r h
  obtain ⟨x, n, rfl, hn, hl, q⟩ := h
  obtain ⟨u, rfl, t, rfl⟩ := vals1 r
  exact KIN.call_text hn hl ⟨.int n, H, I.tok _, ⟨_, rfl⟩, q⟩
theorem mt_startswith : MtM X "str.startswith" (fun x vs H Q => ∃ a b, x = .str a ∧ vs = [.str b] ∧ Q (.bl (Txt.startswith a b)) H) := by
  intro pins s σ H x vs v us Q I rx rv h
  obtain ⟨a, b, rfl, rfl, q⟩ := h
  obtain ⟨t, rfl⟩ := rx
  obtain ⟨u, rfl, t', rfl⟩ := vals1 rv
  exact SC.startswith ⟨.bl _, H, I, rfl, q⟩
theorem mt_partition : MtM X "str.partition" (fun x vs H Q => ∃ a b, x = .str a ∧ vs = [.str b] ∧ (b.length == 0) = false ∧ a.length ≤ sizeLine ∧ ∀ p, H p = none → Q (.ref p) (upd H p (.tup [.str (Txt.partition a b).1, .str (Txt.partition a b).2.1, .str (Txt.partition a b).2.2]))) := by
  intro pins s σ H x vs v us Q I rx rv h
  obtain ⟨a, b, rfl, rfl, hb, ha, q⟩ := h
  obtain ⟨t, rfl⟩ := rx
  obtain ⟨u, rfl, t', rfl⟩ := vals1 rv
  refine call_meets F.slot_str_partition (typeIs_str _ _ _) F.entry_str_partition (F.args_str_partition_2 _ _) (meets_str_partition a b t t' hb ha) ?_
  have q := q _ I.fresh
  unfold Txt.partition at q
  revert q
  cases PySem.Builtin.Str.occurrences a b 0 a.length 1 with
  | nil =>
    intro q
    exact ⟨.ref _, _, I.laid (t' := s.toks + 1) (o := .tup [.str a, .str Str.empty, .str Str.empty]) (fun _ _ e => Heap.get?_push_of_some _ e) (Nat.le_refl _) ⟨by show 3 ≤ sizeLine; decide, _, .cons ⟨_, rfl⟩ (.cons ⟨_, rfl⟩ (.cons ⟨_, rfl⟩ .nil)), ⟨_, Heap.get?_push_size _ rfl, rfl, _, rfl⟩⟩, rfl, q⟩
  | cons i r =>
    intro q
    exact ⟨.ref _, _, I.laid (t' := s.toks + 1 + 1) (o := .tup [.str (PySem.Builtin.Str.strSub a 0 i), .str b, .str (PySem.Builtin.Str.strSub a (i + b.length) a.length)]) (fun _ _ e => Heap.get?_push_of_some _ e) (Nat.le_refl _) ⟨by show 3 ≤ sizeLine; decide, _, .cons ⟨_, rfl⟩ (.cons ⟨_, rfl⟩ (.cons ⟨_, rfl⟩ .nil)), ⟨_, Heap.get?_push_size _ rfl, rfl, _, rfl⟩⟩, rfl, q⟩
theorem strs_of : ∀ {xs : List Str} {its : List Value}, Vals (xs.map V.str) its → ∃ l : List (Str × Tok), its = strValues l ∧ l.map (·.1) = xs
  | [], _, .nil => ⟨[], rfl, rfl⟩
  | x :: xs, _, .cons r rr => by
    obtain ⟨t, rfl⟩ := r
    obtain ⟨l, rfl, e⟩ := strs_of rr
    exact ⟨(x, t) :: l, rfl, by rw [List.map_cons, e]⟩
theorem mt_join : MtM X "str.join" (fun x vs H Q => ∃ sep l xs, x = .str sep ∧ vs = [.ref l] ∧ H l = some (.lst (xs.map V.str)) ∧ JoinOk sep xs = true ∧ Q (.str (Txt.join sep xs)) H) := by
  intro pins s σ H x vs v us Q I rx rv h
  obtain ⟨sep, l, xs, rfl, rfl, hH, hok, q⟩ := h
  obtain ⟨t, rfl⟩ := rx
  cases rv with
  | cons r1 rr =>
    cases rr
    cases r1
    obtain ⟨its, rv', ht, hz⟩ := I.list (SqL.of (K := X.K) hH)
    obtain ⟨ls, rfl, e⟩ := strs_of rv'
    exact SC.join ht.isList e hok fun t' k => ⟨.str _, H, I.tok _, ⟨_, rfl⟩, q⟩
end
end L2

/-! Texts: written by parts, walked, compared by a chain. -/
namespace L2
open PySem PySem.Spec PyProof.Rows PySem.W
section
variable {X : Cx}
def tF3 (t1 t2 : TE) (c : Str) : TE := fun σ H Q => t1 σ H fun x H1 => ∃ a, x = .str a ∧ a.length ≤ sizeLine ∧ (a ++ c).length ≤ sizeLine ∧ t2 σ H1 fun y H2 => ∃ b, y = .str b ∧ b.length ≤ sizeLine ∧ (a ++ c ++ b).length ≤ sizeLine ∧ Q (.str (a ++ c ++ b)) H2
theorem empty_cat (d : Str) : Str.empty ++ d = d := KPc.empty_app d
/-- f'{e1}c{e2}' of texts -/
theorem pe_f3 {e1 e2 : Expr} {t1 t2 : TE} {c : Str} {k : Nat} {p1 p2 p3 pos : Pos} (h1 : PE X e1 t1) (h2 : PE X e2 t2)
    (he : evalEach [.FormattedValue e1 (-1) none p1, .Constant (.str c) k p2, .FormattedValue e2 (-1) none p3] X.env = [eval (.FormattedValue e1 (-1) none p1) X.env, eval (.Constant (.str c) k p2) X.env, eval (.FormattedValue e2 (-1) none p3) X.env] := by rfl) :
    PE X (.JoinedStr [.FormattedValue e1 (-1) none p1, .Constant (.str c) k p2, .FormattedValue e2 (-1) none p3] pos) (tF3 t1 t2 c) := by
  intro pins s σ H Q I h
  refine wpAny_JoinedStr ?_
  rw [he]
  refine wpAny_FormattedValue_plain (thn (h1 pins s σ H _ I h) fun v s1 ⟨x, H1, I1, r1, q1⟩ => ?_)
  obtain ⟨a, rfl, ha, hac, q1⟩ := q1
  obtain ⟨t, rfl⟩ := r1
  have go : ∀ (t' : Tok) (s1' : Shared), Inv X pins σ H1 s1' → ∃ y u, Value.str a t' = .str y u ∧ (Str.empty ++ y).length ≤ sizeLine ∧ Joins (model X.prog X.w) X.A X.xe [eval (.Constant (.str c) k p2) X.env, eval (.FormattedValue e2 (-1) none p3) X.env] (Str.empty ++ y) (fun out s₁ => out.length ≤ sizeLine ∧ EP X pins σ Q (.str out s₁.toks) { s₁ with toks := s₁.toks + 1 }) s1' := fun t' s1' I1' => by
    refine ⟨a, t', rfl, by rw [empty_cat]; exact ha, ?_⟩
    rw [empty_cat]
    refine thn (pe_str (x := c) (j := k) (pos := p2) pins s1' σ H1 (fun v H' => v = .str c ∧ H' = H1) I1' ⟨rfl, rfl⟩) fun v2 s2 ⟨x2, H2, I2, r2, e2', e3'⟩ => ?_
    subst e2' e3'
    obtain ⟨t2', rfl⟩ := r2
    refine ⟨c, t2', rfl, hac, ?_⟩
    refine wpAny_FormattedValue_plain (thn (h2 pins s2 σ _ _ I2 q1) fun v3 s3 ⟨x3, H3, I3, r3, q3⟩ => ?_)
    obtain ⟨b, rfl, hb, hall, q3⟩ := q3
    obtain ⟨t3, rfl⟩ := r3
    have go2 : ∀ (t'' : Tok) (s3' : Shared), Inv X pins σ H3 s3' → ∃ y u, Value.str b t'' = .str y u ∧ (a ++ c ++ y).length ≤ sizeLine ∧ Joins (model X.prog X.w) X.A X.xe [] (a ++ c ++ y) (fun out s₁ => out.length ≤ sizeLine ∧ EP X pins σ Q (.str out s₁.toks) { s₁ with toks := s₁.toks + 1 }) s3' := fun t'' s3' I3' =>
      ⟨b, t'', rfl, hall, hall, .str _, H3, I3'.tok _, ⟨_, rfl⟩, q3⟩
    exact wpAny_formatField_str (go2 _ _ I3) (go2 _ _ (I3.tok _)) hb
  exact wpAny_formatField_str (go _ _ I1) (go _ _ (I1.tok _)) ha
/-! ### a text walked -/
def Its (x : Str) : It := ⟨fun i _ => i < x.length, fun i H v H' => H' = H ∧ ∃ c, x.cps[i]? = some c ∧ v = .str ⟨#[c]⟩, fun i _ => x.length ≤ i⟩
theorem turn_str {P : Program} {w : World} {K : PySem.W.Frag} {tg : Expr} (x : Str) (t : Tok) (it : Addr) : Turn P w K tg (Its x) [it] it (fun i h => h.IsStrIter it "str_ascii_iterator" x t i) where
  mem := by simp
  obj := fun i h st b hb => by
    have e : b = it := by simpa using hb
    subst e
    obtain ⟨o, e, c, d⟩ := st
    exact ⟨o, e, fun v z => by rw [d] at z; cases z⟩
  keep := fun i h h' st k => let ⟨o, ho, r⟩ := st; ⟨o, k it (by simp) o ho, r⟩
  item := by
    intro X hP hw hK hc i pins s σ H E I hf st hg
    subst hP hw hK
    obtain ⟨c, hcx⟩ : ∃ c, x.cps[i]? = some c := ⟨x.cps[i]'hg, Array.getElem?_eq_getElem hg⟩
    obtain ⟨f0, f1, f2, f3, f4, f5⟩ := hf it (by simp)
    refine wpAny_pyNext_ascii_item st hcx fun h' st' sb => ?_
    have I1 : Inv X pins σ H { s with heap := h', toks := s.toks + 1 } := I.turned (t' := s.toks + 1) (fun b o hb e => (sb.2 b hb).trans e) f0 f1 f3 f4 f5
    obtain ⟨o, e, c', d⟩ := id st'
    exact ⟨_, rfl, go_of (s := { s with heap := h', toks := s.toks + 1 }) e c' d (by decide) ⟨.str ⟨#[c]⟩, H, I1, ⟨_, rfl⟩, ⟨rfl, c, hcx, rfl⟩, st', fun b hb => (hf b hb).1⟩⟩
  done := by
    intro X hP hw hK hc i pins s σ H E I hf st hg
    subst hP hw hK
    obtain ⟨f0, f1, f2, f3, f4, f5⟩ := hf it (by simp)
    exact wpAny_pyNext_ascii_end (I.ok.hd hc) st (Array.getElem?_eq_none hg) fun h' eb => ⟨rfl, I.turned (t' := s.toks) (fun b o hb e => eb b o hb e) f0 f1 f3 f4 f5⟩
  self := fun _ _ _ _ _ st h => wpAny_pyIter_striter_ascii st h
def iStr (tl : TE) : TI := fun σ H R => tl σ H fun x H1 => ∃ a, x = .str a ∧ a.cps.all (· < 128) = true ∧ R (Its a) H1
theorem pi_str {tg l : Expr} {tl : TE} (hl : PE X l tl) : PI X tg l (iStr tl) := by
  intro pins s σ H R I h
  refine thn (hl pins s σ H _ I h) fun v s1 ⟨x, H1, I1, r1, q1⟩ => ?_
  obtain ⟨a, rfl, ha, q⟩ := q1
  obtain ⟨t, rfl⟩ := r1
  refine wpAny_pyIter_ascii ha ?_
  refine ⟨s1.heap.objs.size, [s1.heap.objs.size], _, _, H1, rfl, I1.kept (t' := s1.toks) fun b o e => Heap.get?_push_of_some _ e, turn_str a t _, ⟨_, Heap.get?_push_size _ rfl, rfl, rfl⟩, fun b hb => ?_, q⟩
  have e : b = s1.heap.objs.size := by simpa using hb
  subst e
  exact I1.fpOk (Nat.le_refl _) (I1.hok.fresh (Nat.le_refl _))
/-! ### all but the first sign -/
theorem slice1_idx (n : Nat) : PySem.Builtin.Str.strSliceIndices (some 1) none 1 (n + 1) = (List.range n).map (· + 1) := by
  have e : PySem.Builtin.Str.strSliceIndices (some 1) none 1 (n + 1) = PySem.sliceRange (max 0 (min 1 ((n : Int) + 1))) ((n : Int) + 1) 1 := rfl
  rw [e, show max (0 : Int) (min 1 ((n : Int) + 1)) = 1 by omega]
  unfold PySem.sliceRange
  have c : (if (1 : Int) > 0 then (if (1 : Int) < (n : Int) + 1 then ((n : Int) + 1 - 1 + 1 - 1) / 1 else 0) else (if (1 : Int) > (n : Int) + 1 then ((1 : Int) - ((n : Int) + 1) - 1 - 1) / (-1) else 0)).toNat = n := by
    rw [if_pos (by decide)]
    split <;> omega
  show (List.range (if (1 : Int) > 0 then (if (1 : Int) < (n : Int) + 1 then ((n : Int) + 1 - 1 + 1 - 1) / 1 else 0) else (if (1 : Int) > (n : Int) + 1 then ((1 : Int) - ((n : Int) + 1) - 1 - 1) / (-1) else 0)).toNat).map _ = _
  rw [c]
  refine List.map_congr_left fun k _ => ?_
  show ((1 : Int) + 1 * (k : Int)).toNat = k + 1
  omega
/-- x[1:] -/
def cut1 (x : Str) : Str := if (PySem.Builtin.Str.strSliceIndices (some 1) none 1 x.length).length == x.length then x else ⟨((PySem.Builtin.Str.strSliceIndices (some 1) none 1 x.length).filterMap (x.cps[·]?)).toArray⟩
theorem cut1_cons (c : Nat) (r : List Nat) : cut1 ⟨(c :: r).toArray⟩ = ⟨r.toArray⟩ := by
  have hl : (⟨(c :: r).toArray⟩ : Str).length = r.length + 1 := rfl
  unfold cut1
  rw [hl, slice1_idx, List.length_map, List.length_range, if_neg (by simp)]
  congr 2
  rw [List.filterMap_map]
  refine List.ext_getElem? fun i => ?_
  have : ((fun j : Nat => (⟨(c :: r).toArray⟩ : Str).cps[j]?) ∘ fun x => x + 1) = fun j => r[j]? := by
    funext j
    show (c :: r).toArray[j + 1]? = r[j]?
    simp
  rw [this]
  have key : ∀ (l : List Nat), (List.range l.length).filterMap (fun j => l[j]?) = l := by
    intro l
    induction l with
    | nil => rfl
    | cons a l ih =>
      rw [List.length_cons, List.range_succ_eq_map, List.filterMap_cons]
      show a :: List.filterMap (fun j => (a :: l)[j]?) ((List.range l.length).map Nat.succ) = a :: l
      rw [List.filterMap_map]
      congr 1
  rw [key]
def rCut1 : V → Option Int → Option Int → Hp → VK → Prop := fun x lo hi H Q => ∃ z, x = .str z ∧ lo = some 1 ∧ hi = none ∧ (cut1 z).length ≤ sizeLine ∧ Q (.str (cut1 z)) H
theorem sl_cut1 : SlR X rCut1 := by
  intro pins s σ H x v vl vu lo hi sl Q I rx hs pl pu h
  obtain ⟨z, rfl, rfl, rfl, hz, q⟩ := h
  obtain ⟨t, rfl⟩ := rx
  cases pl with
  | int _ tl =>
  cases pu
  refine ⟨"str", _, F.slot_str_getitem.lookup, typeIs_str _ _ _, ?_⟩
  refine wpAny_getItem_str_slice (l := some (1, tl)) (u := none) (st := none) hs rfl ?_
  unfold sliceMade
  have e : slicePicked z (some (1, tl)) none none = PySem.Builtin.Str.strSliceIndices (some 1) none 1 z.length := rfl
  have c1 : (Option.map (fun x : Int × Tok => x.1) none).getD 1 = 1 := rfl
  rw [e]
  unfold cut1 at q hz
  by_cases hq : ((PySem.Builtin.Str.strSliceIndices (some 1) none 1 z.length).length == z.length) = true
  · rw [if_pos hq] at q
    rw [if_pos (by show ((1 : Int) == 1 && _) = true; rw [hq]; rfl)]
    exact ⟨.str z, H, I, ⟨_, rfl⟩, q⟩
  · rw [if_neg hq] at q hz
    rw [if_neg (by show ¬ ((1 : Int) == 1 && _) = true; intro w; exact hq (Bool.and_eq_true_iff.mp w).2)]
    exact ⟨hz, .str _, H, I.tok _, ⟨_, rfl⟩, q⟩
end
end L2

/-! Trees: texts. -/
namespace L3
open PySem L2
section
variable {X : Cx} {a b c e : Expr} {ua ub uc u : UE} {pos p p1 p2 p3 : Pos}
theorem Rep.strV {K : PySem.W.Frag} {B : Hp} {v : V} {x : Str} (r : Rep K B v (.str x)) : v = .str x := by cases r; rfl
def uStrI (u : UE) : UE := fun ρ k => u ρ fun x => ∃ i, x = .int i ∧ i.natAbs.log2 < 1920 ∧ k (.str (toString i))
theorem e_strI (ha : PE3 X e u) (hg : Gl X "str") (hm : X.mg "str" = none) (hs : starEach [e] X.env = (false, eval e X.env) :: starEach [] X.env := by rfl) : PE3 X (.Call (.Name "str" p) [e] [] pos) (uStrI u) := by
  obtain ⟨_, h1, r1⟩ := ha
  refine ⟨_, pe_callTy call_str_int hg hm (by decide +kernel) (pa_cons h1 pa_nil hs) (by decide) (by decide) hs, refCB1 (f := fun x k => ∃ i, x = .int i ∧ i.natAbs.log2 < 1920 ∧ k (.str (toString i))) r1 fun x k h R W B H σ ρ v Q e rx q => ?_⟩
  obtain ⟨i, rfl, hl, hk⟩ := h
  exact ⟨i, by rw [rx.intV], hl, q _ _ B H hk e (Grow.refl _ _) (.str _)⟩
def uIntS (u : UE) : UE := fun ρ k => u ρ fun x => ∃ t n, x = .str t ∧ PySem.intText? t = some n ∧ t.length ≤ 640 ∧ k (.int n)
theorem e_intS (ha : PE3 X e u) (hg : Gl X "int") (hm : X.mg "int" = none) (hs : starEach [e] X.env = (false, eval e X.env) :: starEach [] X.env := by rfl) : PE3 X (.Call (.Name "int" p) [e] [] pos) (uIntS u) := by
  obtain ⟨_, h1, r1⟩ := ha
  refine ⟨_, pe_callTy call_int_text hg hm (by decide +kernel) (pa_cons h1 pa_nil hs) (by decide) (by decide) hs, refCB1 (f := fun x k => ∃ t n, x = .str t ∧ PySem.intText? t = some n ∧ t.length ≤ 640 ∧ k (.int n)) r1 fun x k h R W B H σ ρ v Q e rx q => ?_⟩
  obtain ⟨t, n, rfl, h1, h2, hk⟩ := h
  exact ⟨t, n, by rw [rx.strV], h1, h2, q _ _ B H hk e (Grow.refl _ _) (.int _)⟩
def uLenS (u : UE) : UE := fun ρ k => u ρ fun x => ∃ t : Str, x = .str t ∧ t.length ≤ sizeLine ∧ k (.int t.length)
theorem e_lenS (ha : PE3 X e u) (hg : Gl X "len") (hm : X.mg "len" = none) (hs : starEach [e] X.env = (false, eval e X.env) :: starEach [] X.env := by rfl) : PE3 X (.Call (.Name "len" p) [e] [] pos) (uLenS u) := by
  obtain ⟨_, h1, r1⟩ := ha
  refine ⟨_, pe_callB call_len_str hg hm PySem.boot_len (pa_cons h1 pa_nil hs) (by decide) (by decide) hs, refCB1 (f := fun x k => ∃ t : Str, x = .str t ∧ t.length ≤ sizeLine ∧ k (.int t.length)) r1 fun x k h R W B H σ ρ v Q e rx q => ?_⟩
  obtain ⟨t, rfl, h1, hk⟩ := h
  exact ⟨t, by rw [rx.strV], h1, q _ _ B H hk e (Grow.refl _ _) (.int _)⟩
def uAddS (ua ub : UE) : UE := fun ρ k => ua ρ fun x => ub ρ fun y => ∃ i j : Str, x = .str i ∧ y = .str j ∧ i.length + j.length ≤ sizeLine ∧ k (.str (i ++ j))
theorem e_addS (ha : PE3 X a ua) (hb : PE3 X b ub) : PE3 X (.BinOp a .Add b pos) (uAddS ua ub) := by
  obtain ⟨_, h1, r1⟩ := ha; obtain ⟨_, h2, r2⟩ := hb
  refine ⟨_, pe_op op_add_str h1 h2, ref2 r1 r2 fun x y k h R W B H σ ρ v w' Q e rx ry q => ?_⟩
  obtain ⟨i, j, rfl, rfl, hl, hk⟩ := h
  exact ⟨i, j, rx.strV, ry.strV, hl, q _ _ B H hk e (Grow.refl _ _) (.str _)⟩
def uIxS (ua ub : UE) : UE := fun ρ k => ua ρ fun x => ub ρ fun y => ∃ (z : Str) (i : Int) (c : Nat), x = .str z ∧ y = .int i ∧ z.length ≤ sizeLine ∧ atI z.cps.toList i = some c ∧ k (.str ⟨#[c]⟩)
theorem e_ixS (ha : PE3 X a ua) (hb : PE3 X b ub) (hs : PlainIx b) : PE3 X (.Subscript a b pos) (uIxS ua ub) := by
  obtain ⟨_, h1, r1⟩ := ha; obtain ⟨_, h2, r2⟩ := hb
  refine ⟨_, pe_ix ix_str h1 h2 hs, ref2 r1 r2 fun x y k h R W B H σ ρ v w' Q e rx ry q => ?_⟩
  obtain ⟨z, i, c, rfl, rfl, hl, hc, hk⟩ := h
  exact ⟨z, i, c, rx.strV, ry.intV, hl, hc, q _ _ B H hk e (Grow.refl _ _) (.str _)⟩
def uNinS (ua ub : UE) : UE := fun ρ k => ua ρ fun x => ub ρ fun y => ∃ i j : Str, x = .str i ∧ y = .str j ∧ k (.bl (!(!(Builtin.Str.occurrences j i 0 j.length 1).isEmpty)))
theorem t_ninS (ha : PE3 X a ua) (hb : PE3 X b ub) (hm : behindInMarks .NotIn b = false) : PT3 X (.Compare a [.NotIn] [b] pos) (uB (uNinS ua ub)) := by
  obtain ⟨_, h1, r1⟩ := ha; obtain ⟨_, h2, r2⟩ := hb
  refine ⟨_, pt_cmpR op_notin_str h1 h2 hm, refB (ref2 r1 r2 fun x y k h R W B H σ ρ v w' Q e rx ry q => ?_)⟩
  obtain ⟨i, j, rfl, rfl, hk⟩ := h
  exact ⟨i, j, rx.strV, ry.strV, q _ _ B H hk e (Grow.refl _ _) (.bl _)⟩
/-- f'{a}c{b}' -/
def uF3 (c : Str) (ua ub : UE) : UE := fun ρ k => ua ρ fun x => ∃ i : Str, x = .str i ∧ i.length + c.length ≤ sizeLine ∧ ub ρ fun y => ∃ j : Str, y = .str j ∧ i.length + c.length + j.length ≤ sizeLine ∧ k (.str (i ++ c ++ j))
theorem len_app (x y : Str) : (x ++ y).length = x.length + y.length := by
  show (x.cps ++ y.cps).size = x.cps.size + y.cps.size
  exact Array.size_append
/-- truth of a text -/
def uTruS (u : UE) : UT := fun ρ k => u ρ fun x => ∃ t : Str, x = .str t ∧ t.length ≤ sizeLine ∧ k ((t.length : Int) != 0)
theorem t_truS (ha : PE3 X a ua) (he : ∀ whole, isTrue a X.env whole = (do let v ← whole; standAt a.pos; holding [v] (truthy v)) := by intro _; rfl) : PT3 X a (uTruS ua) := by
  obtain ⟨_, h1, r1⟩ := ha
  refine ⟨_, pt_truth h1 he, fun ρ k h R W B H σ Q e q => ?_⟩
  refine r1 ρ _ h R W B H σ _ e fun x v B1 H1 z1 e1 g1 s1 => ?_
  obtain ⟨t, rfl, hl, hk⟩ := z1
  rw [s1.strV]
  exact ⟨_, ⟨hl, rfl⟩, q _ B1 H1 hk e1 g1⟩
/-- a <= b <= c -/
def uChain (f g : Int → Int → Bool) (ua ub uc : UE) : UT := fun ρ k => ua ρ fun x => ub ρ fun y => ∃ i j, x = .int i ∧ y = .int j ∧ if f i j = true then uc ρ fun z => ∃ l, z = .int l ∧ k (g j l) else k false
theorem t_chain {op op' : CmpOp} {f g : Int → Int → Bool} (ho : Cm op f X) (ho' : Cm op' g X) (ha : PE3 X a ua) (hb : PE3 X b ub) (hc : PE3 X c uc) (hm : lastMarks [op, op'] [b, c] = false := by with_unfolding_all rfl) :
    PT3 X (.Compare a [op, op'] [b, c] pos) (uChain f g ua ub uc) := by
  obtain ⟨_, h1, r1⟩ := ha; obtain ⟨_, h2, r2⟩ := hb; obtain ⟨_, h3, r3⟩ := hc
  refine ⟨_, pt_chain ho ho' h1 h2 h3 hm, fun ρ k h R W B H σ Q e q => ?_⟩
  refine r1 ρ _ h R W B H σ _ e fun x v B1 H1 z1 e1 g1 s1 => ?_
  refine r2 ρ _ z1 R W B1 H1 σ _ e1 fun y w' B2 H2 z2 e2 g2 s2 => ?_
  obtain ⟨i, j, rfl, rfl, z⟩ := z2
  refine ⟨i, j, s1.intV, s2.intV, _, rfl, ?_⟩
  by_cases hf : f i j = true
  · rw [if_pos hf] at z ⊢
    refine r3 ρ _ z R W B2 H2 σ _ e2 fun y' w3 B3 H3 z3 e3 g3 s3 => ?_
    obtain ⟨l, rfl, hk⟩ := z3
    exact ⟨j, l, s2.intV, s3.intV, _, rfl, q _ B3 H3 hk e3 ((g1.trans g2).trans g3)⟩
  · rw [if_neg hf] at z ⊢
    exact ⟨_, rfl, q _ B2 H2 z e2 (g1.trans g2)⟩
/-- names of the program's own: ints, texts -/
theorem e_glbI {x : Str} {i : Int} {t : Tok} (hm : X.mg x = some (.int i t)) (hg : Gl X x) (hd : (x == ("__debug__" : Str)) = false := by decide) : PE3 X (.Name x pos) (uC (.int i)) :=
  ⟨_, pe_glob (v := .int i) hg hm ⟨_, rfl⟩ hd, refC fun _ => .int _⟩
theorem e_glbS {x y : Str} {t : Tok} (hm : X.mg x = some (.str y t)) (hg : Gl X x) (hd : (x == ("__debug__" : Str)) = false := by decide) : PE3 X (.Name x pos) (uC (.str y)) :=
  ⟨_, pe_glob (v := .str y) hg hm ⟨_, rfl⟩ hd, refC fun _ => .str _⟩
/-- x[1:] -/
def uCut1 (u : UE) : UE := fun ρ k => u ρ fun x => ∃ t : Str, x = .str t ∧ (cut1 t).length ≤ sizeLine ∧ k (.str (cut1 t))
theorem e_cut1 {k1 p4} (ha : PE3 X a ua) : PE3 X (.Subscript a (.Slice (some (.Constant (.int 1) k1 p4)) none none p2) pos) (uCut1 ua) := by
  obtain ⟨_, h1, r1⟩ := ha
  refine ⟨_, pe_slice sl_cut1 h1 (po_some pe_int) po_none, fun ρ k h R W B H σ Q e q => ?_⟩
  refine r1 ρ _ h R W B H σ _ e fun x v B1 H1 z1 e1 g1 s1 => ?_
  obtain ⟨t, rfl, hl, hk⟩ := z1
  exact ⟨1, rfl, t, s1.strV, rfl, rfl, hl, q _ _ B1 H1 hk e1 g1 (.str _)⟩
theorem e_f3 {c : Str} {k : Nat} (ha : PE3 X a ua) (hb : PE3 X b ub)
    (he : evalEach [.FormattedValue a (-1) none p1, .Constant (.str c) k p2, .FormattedValue b (-1) none p3] X.env = [eval (.FormattedValue a (-1) none p1) X.env, eval (.Constant (.str c) k p2) X.env, eval (.FormattedValue b (-1) none p3) X.env] := by rfl) :
    PE3 X (.JoinedStr [.FormattedValue a (-1) none p1, .Constant (.str c) k p2, .FormattedValue b (-1) none p3] pos) (uF3 c ua ub) := by
  obtain ⟨_, h1, r1⟩ := ha; obtain ⟨_, h2, r2⟩ := hb
  refine ⟨_, pe_f3 h1 h2 he, fun ρ k h R W B H σ Q e q => ?_⟩
  refine r1 ρ _ h R W B H σ _ e fun x v B1 H1 z1 e1 g1 s1 => ?_
  obtain ⟨i, rfl, l1, z1⟩ := z1
  refine ⟨i, s1.strV, by omega, by rw [len_app]; exact l1, ?_⟩
  refine r2 ρ _ z1 R W B1 H1 σ _ e1 fun y w' B2 H2 z2 e2 g2 s2 => ?_
  obtain ⟨j, rfl, l2, z2⟩ := z2
  exact ⟨j, s2.strV, by omega, by rw [len_app, len_app]; exact l2, q _ _ B2 H2 z2 e2 (g1.trans g2) (.str _)⟩
def uStart (ua ub : UE) : UE := fun ρ k => ua ρ fun x => ∃ i : Str, x = .str i ∧ ub ρ fun y => ∃ j : Str, y = .str j ∧ k (.bl (Txt.startswith i j))
def uPart (ua ub : UE) : UE := fun ρ k => ua ρ fun x => ∃ i : Str, x = .str i ∧ ub ρ fun y => ∃ j : Str, y = .str j ∧ (j.length == 0) = false ∧ i.length ≤ sizeLine ∧ k (.tup [.str (Txt.partition i j).1, .str (Txt.partition i j).2.1, .str (Txt.partition i j).2.2])
def uJoin (ua : UE) (ub : UL) : UE := fun ρ k => ua ρ fun x => ∃ i : Str, x = .str i ∧ ub ρ fun ds => ∃ xs : List Str, ds = xs.map D.str ∧ JoinOk i xs = true ∧ k (.str (Txt.join i xs))
theorem Reps.strs {K : PySem.W.Frag} {B : Hp} : ∀ {xs : List Str} {vs : List V}, Reps K B vs (xs.map D.str) → vs = xs.map V.str
  | [], _, .nil => rfl
  | x :: xs, _, .cons h r => by rw [h.strV, Reps.strs r]; rfl
section
variable {o : Expr} {uo : UE} {ul : UL} {apos cpos : Pos}
theorem e_start (ho : PE3 X o uo) (ha : PE3 X a ua)
    (hbase : attributeBase o "startswith" X.env (eval o X.env) = eval o X.env := by rfl)
    (hfew : ((backTo cpos (starEach [a] X.env)).all (fun x => !x.1) && (backToKw cpos (keywordEach [] X.env)).all (fun x => x.1.isSome)
      && decide ([a].length + ([] : List Keyword).length + (if ([] : List Keyword).isEmpty then 0 else 1) < 30)) = true := by rfl)
    (hline : (apos.endLine == cpos.line) = true := by rfl) (hs : starEach [a] X.env = (false, eval a X.env) :: starEach [] X.env := by rfl) (hplain : (backTo cpos (starEach ([] : List Expr) X.env)).any (·.1) = false := by rfl) :
    PE3 X (.Call (.Attribute o "startswith" apos) [a] [] cpos) (uStart uo ua) := by
  obtain ⟨_, h1, r1⟩ := ho; obtain ⟨_, h2, r2⟩ := ha
  refine ⟨_, pe_bm PySem.F.plainAttrs_str PySem.F.slot_str_startswith PySem.F.type_str_startswith mt_startswith h1 (pa_cons h2 pa_nil hs) hbase hfew hline hs hplain, fun ρ k h R W B H σ Q e q => ?_⟩
  refine r1 ρ _ h R W B H σ _ e fun x v B1 H1 z1 e1 g1 s1 => ?_
  obtain ⟨i, rfl, z1⟩ := z1
  rw [s1.strV]
  refine ⟨rfl, ?_⟩
  refine r2 ρ _ z1 R W B1 H1 σ _ e1 fun y w' B2 H2 z2 e2 g2 s2 => ?_
  obtain ⟨j, rfl, z2⟩ := z2
  exact ⟨i, j, rfl, by rw [s2.strV], q _ _ B2 H2 z2 e2 (g1.trans g2) (.bl _)⟩
theorem e_part (ho : PE3 X o uo) (ha : PE3 X a ua)
    (hbase : attributeBase o "partition" X.env (eval o X.env) = eval o X.env := by rfl)
    (hfew : ((backTo cpos (starEach [a] X.env)).all (fun x => !x.1) && (backToKw cpos (keywordEach [] X.env)).all (fun x => x.1.isSome)
      && decide ([a].length + ([] : List Keyword).length + (if ([] : List Keyword).isEmpty then 0 else 1) < 30)) = true := by rfl)
    (hline : (apos.endLine == cpos.line) = true := by rfl) (hs : starEach [a] X.env = (false, eval a X.env) :: starEach [] X.env := by rfl) (hplain : (backTo cpos (starEach ([] : List Expr) X.env)).any (·.1) = false := by rfl) :
    PE3 X (.Call (.Attribute o "partition" apos) [a] [] cpos) (uPart uo ua) := by
  obtain ⟨_, h1, r1⟩ := ho; obtain ⟨_, h2, r2⟩ := ha
  refine ⟨_, pe_bm PySem.F.plainAttrs_str PySem.F.slot_str_partition PySem.F.type_str_partition mt_partition h1 (pa_cons h2 pa_nil hs) hbase hfew hline hs hplain, fun ρ k h R W B H σ Q e q => ?_⟩
  refine r1 ρ _ h R W B H σ _ e fun x v B1 H1 z1 e1 g1 s1 => ?_
  obtain ⟨i, rfl, z1⟩ := z1
  rw [s1.strV]
  refine ⟨rfl, ?_⟩
  refine r2 ρ _ z1 R W B1 H1 σ _ e1 fun y w' B2 H2 z2 e2 g2 s2 => ?_
  obtain ⟨j, rfl, hj, hi, z2⟩ := z2
  refine ⟨i, j, rfl, by rw [s2.strV], hj, hi, fun p hp => ?_⟩
  have f3 := (e2.toWd.fresh hp).2.2
  exact q _ _ _ _ z2 (e2.alloc hp _) ((g1.trans g2).trans (e2.grow hp _)) (.tup (upd_same ..) (.cons (.str _) (.cons (.str _) (.cons (.str _) .nil))))
theorem e_join (ho : PE3 X o uo) (ha : PO3 X a ul)
    (hbase : attributeBase o "join" X.env (eval o X.env) = eval o X.env := by rfl)
    (hfew : ((backTo cpos (starEach [a] X.env)).all (fun x => !x.1) && (backToKw cpos (keywordEach [] X.env)).all (fun x => x.1.isSome)
      && decide ([a].length + ([] : List Keyword).length + (if ([] : List Keyword).isEmpty then 0 else 1) < 30)) = true := by rfl)
    (hline : (apos.endLine == cpos.line) = true := by rfl) (hs : starEach [a] X.env = (false, eval a X.env) :: starEach [] X.env := by rfl) (hplain : (backTo cpos (starEach ([] : List Expr) X.env)).any (·.1) = false := by rfl) :
    PE3 X (.Call (.Attribute o "join" apos) [a] [] cpos) (uJoin uo ul) := by
  obtain ⟨_, h1, r1⟩ := ho; obtain ⟨_, h2, r2⟩ := ha
  refine ⟨_, pe_bm PySem.F.plainAttrs_str PySem.F.slot_str_join PySem.F.type_str_join mt_join h1 (pa_cons h2 pa_nil hs) hbase hfew hline hs hplain, fun ρ k h R W B H σ Q e q => ?_⟩
  refine r1 ρ _ h R W B H σ _ e fun x v B1 H1 z1 e1 g1 s1 => ?_
  obtain ⟨i, rfl, z1⟩ := z1
  rw [s1.strV]
  refine ⟨rfl, ?_⟩
  refine r2 ρ _ z1 R W B1 H1 σ _ e1 fun ds l vs B2 H2 z2 e2 g2 f1 f2 f3 f4 f5 => ?_
  obtain ⟨xs, rfl, hj, z2⟩ := z2
  exact ⟨i, l, xs, rfl, rfl, by rw [f3, f4.strs], hj, q _ _ B2 H2 z2 e2 (g1.trans g2) (.str _)⟩
end
/-- the signs of a text -/
def uiS (u : UE) : UL := fun ρ k => u ρ fun d => ∃ t : Str, d = .str t ∧ t.cps.all (· < 128) = true ∧ k (t.cps.toList.map fun c => D.str ⟨#[c]⟩)
theorem i_str {tg l : Expr} (hl : PE3 X l u) : PI3 X tg l (uiS u) := by
  obtain ⟨_, h1, r1⟩ := hl
  refine ⟨_, pi_str h1, fun ρ k h R W B H σ Q e q => ?_⟩
  refine r1 ρ _ h R W B H σ _ e fun d v B1 H1 z1 e1 g1 s1 => ?_
  obtain ⟨t, rfl, ht, z⟩ := z1
  refine ⟨t, s1.strV, ht, q _ _ B1 H1 z e1 g1 fun H' s i => ?_⟩
  have hl : (t.cps.toList.map fun c => D.str ⟨#[c]⟩).length = t.length := by rw [List.length_map]; rfl
  rw [hl]
  refine ⟨fun hi => hi, fun hi => hi, fun x H'' hi ⟨y1, c, y2, y3⟩ => ⟨y1, .str ⟨#[c]⟩, ?_, ?_⟩⟩
  · rw [List.getElem?_map, Array.getElem?_toList, y2]; rfl
  · rw [y3]; exact .str _
end
end L3

/-! Texts of numbers: signs as lists. -/
namespace L3
open PySem L2 PyProof.Rows
def S (l : List Nat) : Str := ⟨l.toArray⟩
theorem S_len (l : List Nat) : (S l).length = l.length := rfl
theorem S_list (l : List Nat) : (S l).cps.toList = l := rfl
theorem S_app (a b : List Nat) : S a ++ S b = S (a ++ b) := by
  have e : (S a ++ S b).cps = (S (a ++ b)).cps := by
    rw [PySem.Str.cps_append]
    show a.toArray ++ b.toArray = (a ++ b).toArray
    simp
  cases h1 : S a ++ S b
  cases h2 : S (a ++ b)
  rw [h1, h2] at e
  exact congrArg Str.mk e
theorem S_of {x : Str} {l : List Nat} (h : x.cps.toList = l) : x = S l := by
  cases x with
  | mk a => subst h; rfl
theorem S_inj {a b : List Nat} (h : S a = S b) : a = b := by
  have := congrArg (fun x : Str => x.cps.toList) h
  exact this
/-- the figures of a number -/
def fg (m : Nat) : List Nat := (Nat.toDigits 10 m).map Char.toNat
/-- a whole number written -/
def wl (n : Int) : List Nat := if n < 0 then 45 :: fg n.natAbs else fg n.natAbs
/-- a ratio written -/
def rl (x y : Int) : List Nat := if y = 1 then wl x else wl x ++ 47 :: wl y
theorem str_num (n : Int) (h : 0 ≤ n) : Str.ofString (toString n) = S (fg n.natAbs) := by
  obtain ⟨m, rfl⟩ := Int.eq_ofNat_of_zero_le h
  exact S_of (PySem.W.KIN.signs_num m)
theorem fg_lt {m : Nat} (h : m < 10) : fg m = [48 + m] := by
  unfold fg
  rw [Nat.toDigits_of_lt_base h]
  rcases m with _ | _ | _ | _ | _ | _ | _ | _ | _ | _ | m <;> first | rfl | omega
theorem fg_rec {m : Nat} (h : 10 ≤ m) : fg m = fg (m / 10) ++ [48 + m % 10] := by
  have hm : m % 10 < 10 := Nat.mod_lt m (by decide)
  have t : Nat.toDigits 10 (m / 10) ++ Nat.toDigits 10 (m % 10) = Nat.toDigits 10 (10 * (m / 10) + m % 10) := Nat.toDigits_append_toDigits (by decide) (by omega) hm
  rw [Nat.div_add_mod] at t
  have e := fg_lt hm
  unfold fg at e ⊢
  rw [← t, List.map_append, e]
theorem fg_dig : ∀ (m c : Nat), c ∈ fg m → 48 ≤ c ∧ c ≤ 57 := by
  intro m
  induction m using Nat.strongRecOn with
  | _ m ih =>
    intro c hc
    by_cases h : m < 10
    · rw [fg_lt h] at hc
      rcases List.mem_singleton.mp hc with rfl
      omega
    · rw [fg_rec (by omega)] at hc
      rcases List.mem_append.mp hc with h1 | h1
      · exact ih _ (by omega) c h1
      · rcases List.mem_singleton.mp h1 with rfl
        omega
theorem fg_ge (m : Nat) : 1 ≤ (fg m).length := by
  unfold fg
  rw [List.length_map]
  exact toDigits_len_ge 10 m
theorem fg_le {m : Nat} (h : m < 1000000000000000000000000000000) : (fg m).length ≤ 30 := by
  unfold fg
  rw [List.length_map]
  exact toDigits_len_pow (by decide) (by decide) (show m < 10 ^ 30 from h)
theorem fg_lead : ∀ m : Nat, m ≠ 0 → (fg m)[0]? ≠ some 48 := by
  intro m
  induction m using Nat.strongRecOn with
  | _ m ih =>
    intro h0
    by_cases h : m < 10
    · rw [fg_lt h]
      intro e
      have : 48 + m = 48 := by simpa using e
      omega
    · rw [fg_rec (by omega), List.getElem?_append_left (fg_ge _)]
      exact ih _ (by omega) (by omega)
theorem fg_reads {m : Nat} (h : m < 1000000000000000000000000000000) : PySem.intText? (S (fg m)) = some (m : Int) := by
  have e := intText_digits (x := S (fg m)) (fun c hc => fg_dig m c hc) (fun e => by have := fg_ge m; rw [S_list] at e; rw [e] at this; simp at this) (Nat.le_trans (fg_le h) (by decide))
  rw [S_list] at e
  unfold fg at e
  rw [PySem.W.KIN.val_back] at e
  exact e
/-! ### a text parted at a sign -/
theorem part_none {l : List Nat} {c : Nat} (h : c ∉ l) : Txt.partition (S l) (S [c]) = (S l, S [], S []) := by
  unfold Txt.partition
  rcases StrLaws.occ_head (S l) (S [c]) 1 (Nat.le_refl 1) with ⟨h0, hn⟩ | ⟨i, r, h0, hi, hn⟩
  · rw [h0]; rfl
  · exact absurd (List.mem_of_getElem? ((StrLaws.subAt_one (S l) c i).mp hi)) h
theorem part_some {l r : List Nat} {c : Nat} (h : c ∉ l) : Txt.partition (S (l ++ c :: r)) (S [c]) = (S l, S [c], S r) := by
  unfold Txt.partition
  have hat : (l ++ c :: r)[l.length]? = some c := by rw [List.getElem?_append_right (Nat.le_refl _)]; simp
  rcases StrLaws.occ_head (S (l ++ c :: r)) (S [c]) 1 (Nat.le_refl 1) with ⟨h0, hn⟩ | ⟨i, q, h0, hi, hn⟩
  · exact absurd ((StrLaws.subAt_one (S (l ++ c :: r)) c l.length).mpr hat) (hn _)
  · rw [h0]
    have hm : (l ++ c :: r)[i]? = some c := (StrLaws.subAt_one (S (l ++ c :: r)) c i).mp hi
    have e : i = l.length := by
      rcases Nat.lt_trichotomy i l.length with q1 | q1 | q1
      · rw [List.getElem?_append_left q1] at hm
        exact absurd (List.mem_of_getElem? hm) h
      · exact q1
      · exact absurd ((StrLaws.subAt_one (S (l ++ c :: r)) c l.length).mpr hat) (hn _ q1)
    subst e
    have e1 : Builtin.Str.strSub (S (l ++ c :: r)) 0 l.length = S l := S_of (by rw [StrLaws.strSub_toList, S_list]; simp)
    have e2 : Builtin.Str.strSub (S (l ++ c :: r)) (l.length + (S [c]).length) (S (l ++ c :: r)).length = S r := S_of (by
      rw [StrLaws.strSub_toList, S_list, S_len, S_len]
      have : (l ++ c :: r).drop (l.length + [c].length) = r := by
        rw [show l ++ c :: r = (l ++ [c]) ++ r by simp, show l.length + [c].length = (l ++ [c]).length by simp, List.drop_left]
      rw [this, List.take_of_length_le]
      simp only [List.length_append, List.length_cons, List.length_nil]
      omega)
    show (Builtin.Str.strSub _ 0 l.length, S [c], Builtin.Str.strSub _ (l.length + (S [c]).length) _) = _
    rw [e1, e2]
theorem start_yes (r : List Nat) (c : Nat) : Txt.startswith (S (c :: r)) (S [c]) = true := by
  have := PySem.W.KT.starts_app (S [c]) (S r)
  rw [S_app] at this
  exact this
theorem start_no {l : List Nat} {c : Nat} (h : l[0]? ≠ some c) : Txt.startswith (S l) (S [c]) = false := by
  cases q : Txt.startswith (S l) (S [c]) with
  | false => rfl
  | true =>
    exfalso
    apply h
    unfold Txt.startswith at q
    rw [Bool.and_eq_true] at q
    exact (StrLaws.subAt_one (S l) c 0).mp ⟨of_decide_eq_true q.1, q.2⟩
/-! ### signs of what is written -/
theorem wl_sign (n : Int) (c : Nat) (h : c ∈ wl n) : c = 45 ∨ (48 ≤ c ∧ c ≤ 57) := by
  unfold wl at h
  split at h
  · rcases List.mem_cons.mp h with h | h
    · exact .inl h
    · exact .inr (fg_dig _ c h)
  · exact .inr (fg_dig _ c h)
theorem rl_sign (x y : Int) (c : Nat) (h : c ∈ rl x y) : c = 45 ∨ c = 47 ∨ (48 ≤ c ∧ c ≤ 57) := by
  unfold rl at h
  split at h
  · rcases wl_sign _ c h with h | h <;> simp [h]
  · rcases List.mem_append.mp h with h | h
    · rcases wl_sign _ c h with h | h <;> simp [h]
    · rcases List.mem_cons.mp h with h | h
      · simp [h]
      · rcases wl_sign _ c h with h | h <;> simp [h]
theorem wl_len {n : Int} (h : n.natAbs < 1000000000000000000000000000000) : (wl n).length ≤ 31 := by
  unfold wl
  have := fg_le h
  split
  · rw [List.length_cons]; omega
  · omega
theorem rl_len {x y : Int} (hx : x.natAbs < 1000000000000000000000000000000) (hy : y.natAbs < 1000000000000000000000000000000) : (rl x y).length ≤ 63 := by
  unfold rl
  have := wl_len hx
  have := wl_len hy
  split
  · omega
  · rw [List.length_append, List.length_cons]; omega
/-! ### the program's own texts -/
theorem s_dash : Str.ofString "-" = S [45] := rfl
theorem s_none : Str.ofString "" = S [] := rfl
theorem s_stroke : Str.ofString "/" = S [47] := rfl
theorem s_comma : Str.ofString "," = S [44] := rfl
theorem join_one (x : Str) : Txt.join (S []) [x] = x := by
  unfold Txt.join
  simp [Builtin.Str.glued]
theorem join_ok (x : Str) (h : x.length ≤ 1000) : JoinOk (S []) [x] = true := by
  have e : JoinOk (S []) [x] = !Builtin.Str.tooLong (0 + x.length + 0) := rfl
  rw [e]
  unfold Builtin.Str.tooLong
  rw [decide_eq_false (by have : (1000 : Nat) ≤ sizeLine := by decide
                          omega)]
  rfl
theorem log2_lt {n : Int} (h : n.natAbs < 1000000000000000000000000000000) : n.natAbs.log2 < 1920 := by
  by_cases z : n.natAbs = 0
  · rw [z]; decide
  · rw [Nat.log2_lt z]
    exact Nat.lt_trans h (Nat.lt_of_lt_of_le (show 1000000000000000000000000000000 < 2 ^ 200 by decide) (Nat.pow_le_pow_right (by decide) (by decide)))
theorem wl_cat {n : Int} : (if n < 0 then S [45] else S []) ++ S (fg n.natAbs) = S (wl n) := by
  unfold wl
  split
  · rw [S_app]; rfl
  · rw [S_app]; rfl
theorem fig_mem {c : Nat} (h : 48 ≤ c ∧ c ≤ 57) : c ∈ (Str.ofString "0123456789").cps.toList := by
  have q : c = 48 ∨ c = 49 ∨ c = 50 ∨ c = 51 ∨ c = 52 ∨ c = 53 ∨ c = 54 ∨ c = 55 ∨ c = 56 ∨ c = 57 := by omega
  have e : (Str.ofString "0123456789").cps.toList = [48, 49, 50, 51, 52, 53, 54, 55, 56, 57] := rfl
  rw [e]
  simp only [List.mem_cons, List.not_mem_nil, or_false]
  exact q
theorem wl_head (n : Int) : (wl n)[0]? = some 45 ↔ n < 0 := by
  unfold wl
  split
  · rename_i h; simp [h]
  · rename_i h
    refine ⟨fun e => ?_, fun e => absurd e h⟩
    have := fg_dig _ _ (List.mem_of_getElem? e)
    omega
/-- a ratio's text without its sign -/
theorem rl_neg {x y : Int} (h : x < 0) : rl x y = 45 :: rl (-x) y := by
  have e : wl x = 45 :: wl (-x) := by
    unfold wl
    rw [if_pos h, if_neg (by omega), Int.natAbs_neg]
  unfold rl
  rw [e]
  split <;> rfl
theorem rl_head {x y : Int} (h : 0 ≤ x) : (rl x y)[0]? ≠ some 45 := by
  have e : (rl x y)[0]? = (wl x)[0]? := by
    unfold rl
    split
    · rfl
    · rw [List.getElem?_append_left]
      unfold wl
      rw [if_neg (by omega)]
      exact fg_ge _
  rw [e]
  intro q
  exact absurd ((wl_head x).mp q) (by omega)
theorem wl_pos {n : Int} (h : 0 ≤ n) : wl n = fg n.natAbs := by unfold wl; rw [if_neg (by omega)]
theorem fg_free {m c : Nat} (h : c < 48) : c ∉ fg m := fun q => by have := fg_dig m c q; omega
theorem rl_comma (x y : Int) : 44 ∉ rl x y := fun q => by
  rcases rl_sign x y 44 q with h | h | h <;> omega
theorem at_head {l : List Nat} (h : 1 ≤ l.length) : atI l 0 = some (l.headD 0) := by
  cases l with
  | nil => exact absurd h (by decide)
  | cons c r =>
    have e : L2.ixN (r.length + 1) 0 = some 0 := by unfold L2.ixN; rw [if_pos (by omega)]; simp
    show (L2.ixN (r.length + 1) 0).bind _ = _
    rw [e]
    rfl
end L3

/-! Texts: parts, splitting, signs in texts, repetition; all of a list of truth values. -/
namespace L2
open PySem PySem.Spec PyProof.Rows PySem.W
section
variable {X : Cx}
def rSlS : V → Option Int → Option Int → Hp → VK → Prop := fun x lo hi H Q => ∃ z, x = .str z ∧ z.length ≤ sizeLine ∧ Q (.str (Txt.slice z lo hi)) H
theorem sl_txt : SlR X rSlS := by
  intro pins s σ H x v vl vu lo hi sl Q I rx hs pl pu h
  obtain ⟨z, rfl, hz, q⟩ := h
  obtain ⟨t, rfl⟩ := rx
  refine ⟨"str", _, F.slot_str_getitem.lookup, typeIs_str _ _ _, ?_⟩
  have fin : ∀ (l u : Option (Int × Tok)), l.map (·.1) = lo → u.map (·.1) = hi → s.heap.IsSlice sl l u none → wpAny (model X.prog X.w) X.A (getItem (.str z t) (.ref sl)) (EP X pins σ Q) X.xe s := fun l u e1 e2 hs => by
    subst e1 e2
    exact wpAny_getItem_str_slice (l := l) (u := u) (st := none) hs rfl (post_val_or_str ⟨Nat.le_trans (Txt.slice_le z _ _) hz, fun t' k => ⟨.str _, H, I.tok _, ⟨_, rfl⟩, q⟩⟩)
  cases pl with
  | none =>
    cases pu with
    | none => exact fin none none rfl rfl hs
    | int j tj => exact fin none (some (j, tj)) rfl rfl hs
  | int i ti =>
    cases pu with
    | none => exact fin (some (i, ti)) none rfl rfl hs
    | int j tj => exact fin (some (i, ti)) (some (j, tj)) rfl rfl hs
theorem Vals.strs : ∀ (l : List (Str × Tok)), Vals ((l.map (·.1)).map V.str) (strValues l)
  | [] => .nil
  | p :: r => .cons ⟨_, rfl⟩ (Vals.strs r)
theorem mt_split : MtM X "str.split" (fun x vs H Q => ∃ a b, x = .str a ∧ vs = [.str b] ∧ (b.length == 0) = false ∧ a.length + 2 ≤ sizeLine ∧ ∀ p, H p = none → Q (.ref p) (upd H p (.lst ((Txt.split a b).map V.str)))) := by
  intro pins s σ H x vs v us Q I rx rv h
  obtain ⟨a, b, rfl, rfl, hb, ha, q⟩ := h
  obtain ⟨t, rfl⟩ := rx
  obtain ⟨u, rfl, t', rfl⟩ := vals1 rv
  have q := q _ I.fresh
  have hn : (Builtin.Str.partsBetween a (Builtin.Str.occurrences a b 0 a.length (a.length + 1)) b.length).length ≤ sizeLine := by
    have e1 := StrLaws.occ_length_le a b 0 a.length (a.length + 1)
    rw [length_partsBetween]; omega
  have fin : ∀ (l : List (Str × Tok)) (k : Nat), l.map (·.1) = Txt.split a b → l.length ≤ sizeLine → EP X pins σ Q (.ref s.heap.objs.size) { s with heap := s.heap.push { cls := .type "list", data := .seq (strValues l).toArray }, toks := k } := fun l k e hl => by
    rw [← e] at q
    exact ⟨.ref _, _, I.lnew (t' := k) (Vals.strs l) (by rw [List.length_map, List.length_map]; exact hl), rfl, q⟩
  cases h1 : (decide (a.length < b.length) || decide (Builtin.Str.strKind a < Builtin.Str.strKind b))
  · cases hf : (Builtin.Str.occurrences a b 0 a.length (a.length + 1)).isEmpty
    · refine call_meets F.slot_str_split (typeIs_str _ _ _) F.entry_str_split (F.args_str_split_2 _ _) (meets_str_split_sep a b t t' h1 hb hf (by omega) hn) ?_
      show wants _ _ _ { s with toks := _, heap := s.heap.push { cls := .type "list", data := .seq (strsFrom s.toks (Builtin.Str.partsBetween a (Builtin.Str.occurrences a b 0 a.length (a.length + 1)) b.length)).toArray } }
      rw [strsFrom_eq]
      have e : (numbered s.toks (Builtin.Str.partsBetween a (Builtin.Str.occurrences a b 0 a.length (a.length + 1)) b.length)).map (·.1) = Txt.split a b := ((numbered_texts s.toks (Builtin.Str.partsBetween a (Builtin.Str.occurrences a b 0 a.length (a.length + 1)) b.length)).trans ((if_neg (ne_true_of_eq_false h1)).trans (if_neg (ne_true_of_eq_false hf))).symm)
      refine fin (numbered s.toks _) _ e ?_
      have := congrArg List.length (numbered_texts s.toks (Builtin.Str.partsBetween a (Builtin.Str.occurrences a b 0 a.length (a.length + 1)) b.length))
      rw [List.length_map] at this
      rw [this]; exact hn
    · exact call_meets F.slot_str_split (typeIs_str _ _ _) F.entry_str_split (F.args_str_split_2 _ _) (meets_str_split_not_found a b t t' h1 hb hf)
        (fin [(a, t)] s.toks ((if_neg (ne_true_of_eq_false h1)).trans (if_pos hf)).symm (by show 1 ≤ sizeLine; decide))
  · exact call_meets F.slot_str_split (typeIs_str _ _ _) F.entry_str_split (F.args_str_split_2 _ _) (meets_str_split_cannot_occur a b t t' h1)
      (fin [(a, t)] s.toks (if_pos h1).symm (by show 1 ≤ sizeLine; decide))
/-- all of a list of truth values -/
theorem call_allB (hc : X.calm = true) : CallR X (.builtin "all") (fun xs H Q => ∃ (l : Addr) (bs : List Bool), xs = [.ref l] ∧ H l = some (.lst (bs.map V.bl)) ∧ Q (.bl (bs.all id)) H) := by
  intro pins s σ H xs us Q I r h
  obtain ⟨l, bs, rfl, hl, q⟩ := h
  obtain ⟨u, rfl, r1⟩ := vals1 r
  cases r1
  obtain ⟨its, rv, pl, hz⟩ := I.list (SqL.of hl)
  have hil := pl.isList
  have hlt : l < s.heap.objs.size := by
    obtain ⟨_, e, _⟩ := hil
    exact Heap.lt_size e
  refine call_all_walk (wpAny_pyIter_list hil ⟨s.heap.objs.size, [s.heap.objs.size, l], [s.heap.objs.size], its.toArray.size, _, _, fun i => bs.getD i true, rfl, Walks.list (A := X.A.in1) (I.ok.hd hc) _ l (Nat.ne_of_lt hlt) its.toArray, ?_, ?_, ?_⟩)
  · exact ⟨⟨_, Heap.get?_push_size _ rfl, rfl, rfl⟩, hil.push _⟩
  · intro i v s' Q' E' hP hQ
    obtain ⟨y, ey, ry⟩ := rv.getR (i := i) (u := v) (by simpa using hP)
    rw [List.getElem?_map] at ey
    cases hb : bs[i]? with
    | none => rw [hb] at ey; cases ey
    | some b =>
      rw [hb] at ey
      have e : y = .bl b := (Option.some.inj ey).symm
      subst e
      cases ry
      have e2 : bs.getD i true = b := by rw [List.getD_eq_getElem?_getD, hb]; rfl
      have hQ : Q' (bs.getD i true) s' := hQ
      rw [e2] at hQ
      exact wpAny_truthy_bool hQ
  · intro h' tk hk
    have hlen : its.length = bs.length := by have := rv.length; rw [List.length_map] at this; exact this.symm
    have e : ((List.range its.toArray.size).all fun i => bs.getD i true) = bs.all id := by
      rw [List.size_toArray, hlen, Bool.eq_iff_iff, List.all_eq_true, List.all_eq_true]
      constructor
      · intro z b hb
        obtain ⟨j, hj⟩ := List.getElem?_of_mem hb
        have lt : j < bs.length := (List.getElem?_eq_some_iff.mp hj).1
        have := z j (List.mem_range.mpr lt)
        rw [List.getD_eq_getElem?_getD, hj] at this
        exact this
      · intro z j hj
        have lt := List.mem_range.mp hj
        rw [List.getD_eq_getElem?_getD, List.getElem?_eq_getElem lt]
        exact z _ (List.getElem_mem lt)
    rw [e]
    refine ⟨.bl _, H, I.kept (h' := h') (t' := tk) fun b o eb => ?_, rfl, q⟩
    refine hk b o (fun hm => ?_) (Heap.get?_push_of_some _ eb)
    rw [List.mem_singleton.mp hm] at eb
    exact Nat.lt_irrefl _ (Heap.lt_size eb)
end
end L2

namespace L3
open PySem L2
section
variable {X : Cx} {a b c e : Expr} {ua ub uc u : UE} {pos p p1 p2 p3 : Pos}
/-- x[lo:hi] of a text -/
def uSlS (u : UE) (l h : UP) : UE := fun ρ k => u ρ fun x => l ρ fun lo => h ρ fun hi => ∃ t : Str, x = .str t ∧ t.length ≤ sizeLine ∧ k (.str (Txt.slice t lo hi))
theorem e_slS {lo hi : Option Expr} {ul uh : UP} {p2 : Pos} (he : PE3 X e u) (hl : PP3 X lo ul) (hh : PP3 X hi uh) : PE3 X (.Subscript e (.Slice lo hi none p2) pos) (uSlS u ul uh) := by
  obtain ⟨_, h1, r1⟩ := he; obtain ⟨_, h2, r2⟩ := hl; obtain ⟨_, h3, r3⟩ := hh
  refine ⟨_, pe_slice sl_txt h1 h2 h3, fun ρ k h R W B H σ Q e q => ?_⟩
  refine r1 ρ _ h R W B H σ _ e fun d v B1 H1 z1 e1 g1 s1 => ?_
  refine r2 ρ _ z1 R W B1 H1 σ _ e1 fun lo B2 H2 z2 e2 g2 => ?_
  refine r3 ρ _ z2 R W B2 H2 σ _ e2 fun hi B3 H3 z3 e3 g3 => ?_
  obtain ⟨t, rfl, hn, z⟩ := z3
  exact ⟨t, (s1.mono (g2.trans g3).s).strV, hn, q _ _ _ _ z e3 ((g1.trans g2).trans g3) (.str _)⟩
def uInS (ua ub : UE) : UE := fun ρ k => ua ρ fun x => ub ρ fun y => ∃ i j : Str, x = .str i ∧ y = .str j ∧ k (.bl (!(Builtin.Str.occurrences j i 0 j.length 1).isEmpty))
theorem e_inS (ha : PE3 X a ua) (hb : PE3 X b ub) (hm : behindInMarks .In b = false) : PE3 X (.Compare a [.In] [b] pos) (uInS ua ub) := by
  obtain ⟨_, h1, r1⟩ := ha; obtain ⟨_, h2, r2⟩ := hb
  refine ⟨_, pe_cmpR op_in_str h1 h2 hm, ref2 r1 r2 fun x y k h R W B H σ ρ v w' Q e rx ry q => ?_⟩
  obtain ⟨i, j, rfl, rfl, hk⟩ := h
  exact ⟨i, j, rx.strV, ry.strV, q _ _ B H hk e (Grow.refl _ _) (.bl _)⟩
/-- all of a list of truth values -/
def uAllB (u : UE) : UE := fun ρ k => u ρ fun x => ∃ bs : List Bool, x = .lst (bs.map D.bl) ∧ k (.bl (bs.all id))
theorem Reps.bls {K : PySem.W.Frag} {B : Hp} : ∀ {xs : List Bool} {vs : List V}, Reps K B vs (xs.map D.bl) → vs = xs.map V.bl
  | [], _, .nil => rfl
  | x :: xs, _, .cons h r => by rw [h.blV, Reps.bls r]; rfl
theorem e_allB (ha : PE3 X e u) (hc : X.calm = true) (hg : Gl X "all") (hm : X.mg "all" = none) (hs : starEach [e] X.env = (false, eval e X.env) :: starEach [] X.env := by rfl) : PE3 X (.Call (.Name "all" p) [e] [] pos) (uAllB u) := by
  obtain ⟨_, h1, r1⟩ := ha
  refine ⟨_, pe_callB (call_allB hc) hg hm (by decide +kernel) (pa_cons h1 pa_nil hs) (by decide) (by decide) hs, refCB1 (f := fun x k => ∃ bs : List Bool, x = .lst (bs.map D.bl) ∧ k (.bl (bs.all id))) r1 fun x k h R W B H σ ρ v Q e rx q => ?_⟩
  obtain ⟨bs, rfl, hk⟩ := h
  obtain ⟨a, vs, rfl, ha, rs⟩ := rx.lstV
  exact ⟨a, bs, rfl, by rw [e.bh _ _ ha, rs.bls], q _ _ B H hk e (Grow.refl _ _) (.bl _)⟩
section
variable {o : Expr} {uo : UE} {ul : UL} {apos cpos : Pos}
theorem Reps.ofStrs {K : PySem.W.Frag} {B : Hp} : ∀ (xs : List Str), Reps K B (xs.map V.str) (xs.map D.str)
  | [] => .nil
  | x :: xs => .cons (.str x) (Reps.ofStrs xs)
def uSplit (ua ub : UE) : UL := fun ρ k => ua ρ fun x => ∃ i : Str, x = .str i ∧ ub ρ fun y => ∃ j : Str, y = .str j ∧ (j.length == 0) = false ∧ i.length + 2 ≤ sizeLine ∧ k ((Txt.split i j).map D.str)
theorem o_split (ho : PE3 X o uo) (ha : PE3 X a ua)
    (hbase : attributeBase o "split" X.env (eval o X.env) = eval o X.env := by rfl)
    (hfew : ((backTo cpos (starEach [a] X.env)).all (fun x => !x.1) && (backToKw cpos (keywordEach [] X.env)).all (fun x => x.1.isSome)
      && decide ([a].length + ([] : List Keyword).length + (if ([] : List Keyword).isEmpty then 0 else 1) < 30)) = true := by rfl)
    (hline : (apos.endLine == cpos.line) = true := by rfl) (hs : starEach [a] X.env = (false, eval a X.env) :: starEach [] X.env := by rfl) (hplain : (backTo cpos (starEach ([] : List Expr) X.env)).any (·.1) = false := by rfl) :
    PO3 X (.Call (.Attribute o "split" apos) [a] [] cpos) (uSplit uo ua) := by
  obtain ⟨_, h1, r1⟩ := ho; obtain ⟨_, h2, r2⟩ := ha
  refine ⟨_, pe_bm PySem.F.plainAttrs_str PySem.F.slot_str_split PySem.F.type_str_split mt_split h1 (pa_cons h2 pa_nil hs) hbase hfew hline hs hplain, fun ρ k h R W B H σ Q e q => ?_⟩
  refine r1 ρ _ h R W B H σ _ e fun x v B1 H1 z1 e1 g1 s1 => ?_
  obtain ⟨i, rfl, z1⟩ := z1
  rw [s1.strV]
  refine ⟨rfl, ?_⟩
  refine r2 ρ _ z1 R W B1 H1 σ _ e1 fun y w' B2 H2 z2 e2 g2 s2 => ?_
  obtain ⟨j, rfl, hj, hi, z2⟩ := z2
  refine ⟨i, j, rfl, by rw [s2.strV], hj, hi, fun p hp => ?_⟩
  obtain ⟨f1, f2, f3, f4, f5⟩ := e2.newO hp (Reps.ofStrs (K := X.K) (B := B2) (Txt.split i j))
  exact q _ p _ B2 _ z2 f1 (g1.trans g2) f2 f3 f4 (Reps.ofStrs _) f5
end
end
end L3

/-! Defs that raise: what passes through, over trees. -/
namespace L2
open PySem PySem.Spec PyProof.Rows PySem.W
/-- an exception that came out of a call leaves the def as well -/
theorem passM {P : Program} {w : World} {K : PySem.W.Frag} {mg : Str → Option Value} {base : Heap} {N : List Str} {qual : Str} {scope : Scope} {f C : Addr} {cd : Value} {A : Around} {outer : List Env} {s : Shared} {H : Hp} {E : XK} :
    Passes (CXm P w C) (cxOf (CXm P w C) P w K mg base N qual scope f cd A outer s H E) E := by
  intro pins σ H0 s1 v s2 I hx
  obtain ⟨e, a0, B, H1, rfl, os, bare, un, hB, fl, there, b2, hE⟩ := hx
  have fl : Heap.FlyingW B (envOfC qual scope s.heap.objs.size f cd :: outer) e (.ref C) a0 s2.heap := fl
  have fsI := I.stack
  have tr : Un (frs (envOfC qual scope s.heap.objs.size f cd :: outer)) [] H H1 s.heap s2.heap := Un.trans (I.base.mono (fun b hb => List.mem_cons_of_mem _ hb) (fun b hb => hb)) un
  have old : ∀ b o, s.heap.get? b = some o → b ∉ frs outer → b ∉ frs (envOfC qual scope s.heap.objs.size f cd :: outer) := fun b o q n hm => by
    have z : b ∈ s.heap.objs.size :: frs outer := hm
    rcases List.mem_cons.mp z with z | z
    · exact absurd (Heap.lt_size q) (by rw [z]; exact Nat.lt_irrefl _)
    · exact n z
  have there' : ∀ b o, s.heap.get? b = some o → b ∉ frs outer → ∃ o', B.get? b = some o' ∧ (H b = none → o' = o) := fun b o q n => by
    obtain ⟨o1, z⟩ := I.base.there b o q (by intro y; cases y)
    obtain ⟨o', z2, y2⟩ := there b o1 z (old b o q n)
    refine ⟨o', z2, fun hn => ?_⟩
    have y := I.base.keep b o q hn n (by intro y; cases y)
    rw [z] at y
    have h0 : H0 b = none := I.base.free b o q hn (by intro y; cases y)
    rw [y2 h0]
    exact Option.some.inj y
  refine leaves_onX (base := B) (outer := outer) (L := s.heap.objs.size) I.ok.frames rfl fl b2 fun h2 fl2 b3 up => ?_
  have slot : ∀ b o, s.heap.get? b = some o → H b = none → b ∈ frs outer → ∃ sl, h2.get? b = some { o with slots := sl } := fun b o q n hb => by
    have hb' : b ∈ frs (envOfC qual scope s.heap.objs.size f cd :: outer) := List.mem_cons_of_mem _ hb
    obtain ⟨sl, z⟩ := tr.slot b o q n hb' (by intro y; cases y)
    obtain ⟨_, o2, z2, nf⟩ := I.ok.funs.mem hb
    have q' : s.heap.get? b = some o2 := z2
    rw [q] at q'
    cases q'
    obtain ⟨sl2, z3⟩ := up b _ z nf
    exact ⟨sl2, z3⟩
  refine ⟨e, a0, B, H1, rfl, os.trans I.os, bare, ?_, hB, fl2, there', b3, hE⟩
  refine ⟨fun b o q n nb _ => ?_, fun b o q n hb _ => slot b o q n hb, fun b o q n _ => tr.free b o q n (by intro y; cases y), fun b o q _ => ?_, fun b xs z => tr.tups b xs z, fun b ob u z => tr.frzs b ob u z, fun b ps z => tr.tbls b ps z⟩
  · obtain ⟨o', z, y⟩ := there' b o q nb
    rw [← y n]
    exact fl2.1 _ _ z
  · by_cases hb : b ∈ frs outer
    · obtain ⟨sl, z⟩ := slot b o q (I.ok.frf b hb) hb
      exact ⟨_, z⟩
    · obtain ⟨o', z, _⟩ := there' b o q hb
      exact ⟨o', fl2.1 _ _ z⟩
end L2
namespace L3
open PySem L2 PySem.W
def W0 : Addr → Prop := fun _ => False
section
variable (K : PySem.W.Frag) (R : Hp)
def RefER (t : TE) (u : UE) : Prop := ∀ (ρ : List Sl) (k : D → Prop), u ρ k → ∀ (B H : Hp) (σ : St) (Q : VK), Ev K R W0 B H σ ρ →
  (∀ d v B' H', k d → Ev K R W0 B' H' σ ρ → Grow R B B' → Rep K B' v d → Q v H') → t σ H Q
def RefSR (t : TS) (u : US) : Prop := ∀ (U : UEnds) (ρ : List Sl), u U ρ → ∀ (B H : Hp) (σ : St) (D : Ends), Ev K R W0 B H σ ρ → Sim K R W0 B U D → t D σ H
/-- a tuple of values for which a def raises -/
def prT (G : List D → Prop) : List V → Hp → Prop := fun vs H => ∃ B ds, G ds ∧ Same B H ∧ Reps K B vs ds
end
theorem Ev.same {K : PySem.W.Frag} {R B H : Hp} {σ : St} {ρ : List Sl} (e : Ev K R W0 B H σ ρ) : Same R H := fun a o h => e.fr a o h (fun z => z)
section
variable {X : Cx} {R : Hp} {Z : Prop} {a b c e : Expr} {es : List Expr} {ua ub u u' : UE} {ul : UL} {uc : UT} {s t : US} {pos p : Pos} {E : XK} {C : Addr}
def PER (X : Cx) (R : Hp) (Z : Prop) (e : Expr) (u : UE) : Prop := ∃ t, PE X e t ∧ (Z → RefER X.K R t u)
def PSR (X : Cx) (R : Hp) (Z : Prop) (s : Stmt) (u : US) : Prop := ∃ t, PS X s t ∧ (Z → RefSR X.K R t u)
def PSsR (X : Cx) (R : Hp) (Z : Prop) (s : List Stmt) (u : US) : Prop := ∃ t, PSs X s t ∧ (Z → RefSR X.K R t u)
theorem er_of (h : PE3 X e u) : PER X R Z e u := by
  obtain ⟨t, h1, r1⟩ := h
  exact ⟨t, h1, fun _ ρ k h B H σ Q e q => r1 ρ k h R W0 B H σ Q e q⟩
theorem er_or (h : PER X R Z e u) (h' : PER X R Z e u') : PER X R Z e (fun ρ k => u ρ k ∨ u' ρ k) := by
  obtain ⟨t, h1, r1⟩ := h; obtain ⟨t', h1', r1'⟩ := h'
  refine ⟨fun σ H Q => t σ H Q ∨ t' σ H Q, fun pins s σ H Q I h => ?_, fun z ρ k h B H σ Q e q => ?_⟩
  · rcases h with h | h
    · exact h1 pins s σ H Q I h
    · exact h1' pins s σ H Q I h
  · rcases h with h | h
    · exact .inl (r1 z ρ k h B H σ Q e q)
    · exact .inr (r1' z ρ k h B H σ Q e q)
/-- a call that raises -/
theorem er_callM {x : Str} {ps : List Str} {j lv : Nat} {G : List D → Prop} (c : CalM X.prog X.w X.K X.mg X.base x ps j C (prT X.K G)) (hr : Room lv X.A) (hx : Passes (CXm X.prog X.w C) X E) (hE : Z → ∀ H1, Same R H1 → E (.ref C) none H1) (hg : Gl X x) (ha : PL3 X (e :: es) ul) (hjk : j ≤ lv := by decide)
    (hdb : (x == ("__debug__" : Str)) = false := by decide) (he : starEach (e :: es) X.env = (false, eval e X.env) :: starEach es X.env := by rfl) (hpl : (backTo pos (starEach es X.env)).any (·.1) = false := by rfl) :
    PER X R Z (.Call (.Name x p) (e :: es) [] pos) (fun ρ _ => ul ρ G) := by
  obtain ⟨t, h1, r1⟩ := ha
  refine ⟨_, pe_calM c hr hx hg h1 hjk hdb he hpl, fun z ρ k h B H σ Q e q => ?_⟩
  refine r1 ρ _ h R W0 B H σ _ e fun ds vs B1 H1 z1 e1 g1 rs => ?_
  rw [List.append_nil]
  exact ⟨⟨B1, ds, z1, e1.bh, rs⟩, fun H2 s => hE z H2 (e1.same.trans s)⟩
theorem er_ifE (hc : PT3 X c uc) (ha : PER X R Z a ua) (hb : PER X R Z b ub) : PER X R Z (.IfExp c a b pos) (uIfE uc ua ub) := by
  obtain ⟨_, h0, r0⟩ := hc; obtain ⟨_, h1, r1⟩ := ha; obtain ⟨_, h2, r2⟩ := hb
  refine ⟨_, pe_ifExp h0 h1 h2, fun z ρ k h B H σ Q e q => ?_⟩
  refine r0 ρ _ h R W0 B H σ _ e fun c B1 H1 z1 e1 g1 => ?_
  cases c with
  | true =>
    rw [if_pos rfl] at z1 ⊢
    exact r1 z ρ k z1 B1 H1 σ Q e1 fun d v B' H' hk e2 g2 => q d v B' H' hk e2 (g1.trans g2)
  | false =>
    rw [if_neg Bool.false_ne_true] at z1 ⊢
    exact r2 z ρ k z1 B1 H1 σ Q e1 fun d v B' H' hk e2 g2 => q d v B' H' hk e2 (g1.trans g2)
/-- f(a, b), of which a or b raises -/
theorem er_callF2 {x : Str} {ps : List Str} {j lv n : Nat} {F : FS} (c : Cal X.prog X.w X.K X.mg X.base x ps j (Con X.K n F)) (hr : Room lv X.A) (hg : Gl X x) (ha : PER X R Z a ua) (hb : PER X R Z b ub) (hjk : j ≤ lv := by decide)
    (hdb : (x == ("__debug__" : Str)) = false := by decide) (he : starEach [a, b] X.env = (false, eval a X.env) :: starEach [b] X.env := by rfl) (hs : starEach [b] X.env = (false, eval b X.env) :: starEach [] X.env := by rfl) (hpl : (backTo pos (starEach [b] X.env)).any (·.1) = false := by rfl) :
    PER X R Z (.Call (.Name x p) [a, b] [] pos) (fun ρ _ => ua ρ fun _ => ub ρ fun _ => False) := by
  obtain ⟨_, h1, r1⟩ := ha; obtain ⟨_, h2, r2⟩ := hb
  refine ⟨_, pe_cal c hr hg (pa_cons h1 (pa_cons h2 pa_nil hs) he) hjk hdb he hpl, fun z ρ k h B H σ Q e q => ?_⟩
  refine r1 z ρ _ h B H σ _ e fun d v B1 H1 z1 e1 g1 s1 => ?_
  exact r2 z ρ _ z1 B1 H1 σ _ e1 fun d v B2 H2 z2 e2 g2 s2 => z2.elim
theorem sr_of {st : Stmt} (h : PS3 X st s) : PSR X R Z st s := by
  obtain ⟨t, h1, r1⟩ := h
  exact ⟨t, h1, fun _ U ρ h B H σ D e sm => r1 U ρ h R W0 B H σ D e sm⟩
theorem ssr_of {st : List Stmt} (h : PSs3 X st s) : PSsR X R Z st s := by
  obtain ⟨t, h1, r1⟩ := h
  exact ⟨t, h1, fun _ U ρ h B H σ D e sm => r1 U ρ h R W0 B H σ D e sm⟩
theorem ssr_one {st : Stmt} (h : PSR X R Z st s) : PSsR X R Z [st] s := by
  obtain ⟨_, h1, r1⟩ := h
  exact ⟨_, pss_one h1, r1⟩
theorem ssr_cons {st : Stmt} {rest : List Stmt} (h : PSR X R Z st s) (h' : PSsR X R Z rest t) : PSsR X R Z (st :: rest) (uSeq s t) := by
  obtain ⟨_, h1, r1⟩ := h; obtain ⟨_, h2, r2⟩ := h'
  refine ⟨_, pss_cons h1 h2, fun z U ρ h B H σ D e sm => ?_⟩
  exact r1 z _ ρ h B H σ _ e ⟨fun ρ' σ' B' H' y e' g => r2 z U ρ' y B' H' σ' D e' (sm.grow g), sm.bk, sm.ct, sm.rt⟩
theorem sr_set {i : Nat} {x : Str} {pos' : Pos} (hN : X.N.Nodup) (hi : X.N[i]? = some x) (hx : Loc X.env.scope x) (he : PER X R Z e u) (hs : swapsWith e (some (.Name x pos')) pos.line X.env = pure false := by rfl) (hf : X.fn x = true ∨ X.env.scope.names.lookup x = some .local := by first | exact .inl rfl | exact .inr rfl | assumption) :
    PSR X R Z (.Assign [.Name x pos'] e pos) (uSet i u) := by
  obtain ⟨_, h1, r1⟩ := he
  refine ⟨_, ps_set hN hi hx h1 hs hf, fun z U ρ h B H σ D e s => ?_⟩
  exact r1 z ρ _ h B H σ _ e fun d v B1 H1 z1 e1 g1 s1 => s.nx _ _ B1 H1 z1 (e1.setV i s1) g1
theorem sr_ret (h : PER X R Z e u) : PSR X R Z (.Return (some e) pos) (uRet u) := by
  obtain ⟨_, h1, r1⟩ := h
  refine ⟨_, ps_ret h1, fun z U ρ h B H σ D e s => ?_⟩
  exact r1 z ρ _ h B H σ _ e fun d v B1 H1 z1 e1 g1 s1 => s.rt _ v B1 H1 z1 e1.toWd g1 s1
theorem sr_if {a b : List Stmt} (hc : PT3 X c uc) (ha : PSsR X R Z a s) (hb : PSsR X R Z b t) : PSR X R Z (.If c a b pos) (uIf uc s t) := by
  obtain ⟨_, h0, r0⟩ := hc; obtain ⟨_, h1, r1⟩ := ha; obtain ⟨_, h2, r2⟩ := hb
  refine ⟨_, ps_if h0 h1 h2, fun z U ρ h B H σ D e sm => ?_⟩
  refine r0 ρ _ h R W0 B H σ _ e fun c B1 H1 z1 e1 g1 => ?_
  cases c with
  | true =>
    rw [if_pos rfl] at z1 ⊢
    exact r1 z U ρ z1 B1 H1 σ D e1 (sm.grow g1)
  | false =>
    rw [if_neg Bool.false_ne_true] at z1 ⊢
    exact r2 z U ρ z1 B1 H1 σ D e1 (sm.grow g1)
theorem Reps.argsIn {K : PySem.W.Frag} {W : Addr → Prop} {B : Hp} : ∀ {vs : List V} {ds : List D}, Reps K B vs ds → ArgsIn K W B vs (ds.map Sl.val)
  | _, _, .nil => .nil
  | _, _, .cons h r => .val h (Reps.argsIn r)
theorem bags_vals : ∀ ds : List D, bags (ds.map Sl.val) = 0
  | [] => rfl
  | d :: ds => by simp only [List.map_cons, bags, bags_vals ds]
end
section
variable {P : Program} {w : World} {K : PySem.W.Frag} {mg : Str → Option Value} {base : Heap}
/-- raise C(..) in a def that raises -/
theorem sr_raise {N : List Str} {qual x : Str} {scope : Scope} {f C : Addr} {cd : Value} {A : Around} {outer : List Env} {s : Shared} {H : Hp} {E : XK} {tx : Str} {j : Nat} {np cpos pos p2 : Pos}
    (q : excIn K C [.type "ValueError", .type "Exception", .type "BaseException", .type "object"] "ValueError.__new__" = true) (hg : Gl (cxOf (CXm P w C) P w K mg base N qual scope f cd A outer s H E) x) (hm : mg x = some (.ref C))
    (hd : (x == ("__debug__" : Str)) = false := by decide)
    (hs : starEach [.Constant (.str tx) j p2] (cxOf (CXm P w C) P w K mg base N qual scope f cd A outer s H E).env = [(false, eval (.Constant (.str tx) j p2) (cxOf (CXm P w C) P w K mg base N qual scope f cd A outer s H E).env)] := by rfl) :
    PSR (cxOf (CXm P w C) P w K mg base N qual scope f cd A outer s H E) H (∀ H1, Same H H1 → E (.ref C) none H1) (.Raise (some (.Call (.Name x np) [.Constant (.str tx) j p2] [] cpos)) none pos) (fun _ _ => True) := by
  refine ⟨_, ps_raise (R := fun H1 => E (.ref C) none H1) PySem.F.excBase_ValueError (by decide) q hg hm rfl pe_str (fun pins σ H1 s h1 e vs I me q => leavesM I me q) hd hs, fun z U ρ h B H2 σ D e sm => ?_⟩
  exact ⟨rfl, z _ e.same⟩
theorem def3M {x : Str} {st : Stmt} {N ps : List Str} {lv n : Nat} {C : Addr} {G : List D → Prop} (Fd : Fnd K mg x st ps) (S : FnScope N ps (defScope st)) (hn : ps.length = n) (hG : ∀ ds, G ds → ds.length = n)
    (hbody : ∀ (f : Addr) (cdv : Value) (A : Around) (outer : List PySem.Env) (s : Shared) (H : Hp) (E : XK), Room lv (A.deeper (PyProof.Rows.envOfC x (defScope st) s.heap.objs.size f cdv)) →
      ∃ u, PSsR (cxOf (CXm P w C) P w K mg base N x (defScope st) f cdv A outer s H E) H (∀ H1, Same H H1 → E (.ref C) none H1) (defBody st) u ∧ ∀ ds, G ds → u { nx := fun _ => False, rt := fun _ => False } (ds.map Sl.val ++ List.replicate (N.length - n) .no)) : CalM P w K mg base x ps (lv + 1) C (prT K G) := by
  refine Fd.raisesM S (fun vs H h => ?_) (fun f cdv A outer s H vs E hr h => ?_)
  · obtain ⟨B, ds, g, _, r⟩ := h
    rw [r.length, hG ds g, hn]
  · obtain ⟨u, ⟨t, ht, rt⟩, hu⟩ := hbody f cdv A outer s H E hr
    refine ⟨t, ht, fun z D => ?_⟩
    obtain ⟨B, ds, g, sB, r⟩ := h
    have ev := Ev.start (N := N) (W := W0) (as := ds.map Sl.val) (by rw [bags_vals]; exact Nat.zero_le _) sB (fun a z => z.elim) r.argsIn
    rw [List.length_map, hG ds g] at ev
    exact rt z _ _ (hu ds g) B H (L2.start N vs) _ ev ⟨fun _ _ _ _ h => h.elim, fun _ _ _ _ h => h.elim, fun _ _ _ _ h => h.elim, fun _ _ _ _ h => h.elim⟩
end
end L3

/-! Texts that are whole numbers, ratios, points. -/
namespace L3
open PySem L2 PyProof.Rows
/-! ### which texts are whole numbers -/
def isW (l : List Nat) : Bool := decide (1 ≤ l.length) && decide (l.length ≤ 30) && l.all (fun c => decide (48 ≤ c) && decide (c ≤ 57)) && (decide (l = [48]) || decide (l.headD 0 ≠ 48))
theorem fg_snoc {m d : Nat} (hm : m ≠ 0) (hd : d < 10) : fg (10 * m + d) = fg m ++ [48 + d] := by
  rw [fg_rec (by omega), show (10 * m + d) / 10 = m by omega, show (10 * m + d) % 10 = d by omega]
/-- signs that are figures, none of them 0 at the head, write a number -/
theorem fg_of : ∀ (r : List Nat) (m : Nat), m ≠ 0 → (∀ c ∈ r, 48 ≤ c ∧ c ≤ 57) → ∃ n, n ≠ 0 ∧ fg m ++ r = fg n
  | [], m, h, _ => ⟨m, h, by simp⟩
  | c :: r, m, h, hr => by
    have hc := hr c List.mem_cons_self
    have e := fg_snoc (m := m) (d := c - 48) h (by omega)
    rw [show 48 + (c - 48) = c by omega] at e
    obtain ⟨n, n0, en⟩ := fg_of r (10 * m + (c - 48)) (by omega) fun d hd => hr d (List.mem_cons_of_mem _ hd)
    refine ⟨n, n0, ?_⟩
    rw [← en, e, List.append_assoc]
    rfl
theorem isW_fg {l : List Nat} (h : isW l = true) : ∃ m, m < 1000000000000000000000000000000 ∧ l = fg m := by
  unfold isW at h
  simp only [Bool.and_eq_true, Bool.or_eq_true, decide_eq_true_eq, List.all_eq_true] at h
  obtain ⟨⟨⟨h1, h2⟩, h3⟩, h4⟩ := h
  have key : ∃ m, l = fg m := by
    rcases h4 with h4 | h4
    · exact ⟨0, h4⟩
    · cases l with
      | nil => exact absurd h1 (by decide)
      | cons c r =>
        have hc := h3 c List.mem_cons_self
        have c0 : c ≠ 48 := h4
        obtain ⟨n, _, en⟩ := fg_of r (c - 48) (by omega) fun d hd => h3 d (List.mem_cons_of_mem _ hd)
        rw [fg_lt (by omega), show 48 + (c - 48) = c by omega] at en
        exact ⟨n, en⟩
  obtain ⟨m, rfl⟩ := key
  refine ⟨m, ?_, rfl⟩
  have e := PySem.W.KIN.val_back m
  have low : ∀ m k : Nat, 10 ^ k ≤ m → k < (fg m).length := by
    intro m
    induction m using Nat.strongRecOn with
    | _ m ih =>
      intro k hk
      cases k with
      | zero => exact fg_ge m
      | succ k =>
        have hp : 10 ≤ m := Nat.le_trans (by rw [Nat.pow_succ]; have := Nat.pow_pos (n := k) (show 0 < 10 by decide); omega) hk
        rw [fg_rec hp, List.length_append]
        have := ih (m / 10) (by omega) k (by rw [Nat.pow_succ] at hk; omega)
        simp only [List.length_cons, List.length_nil]
        omega
  by_cases q : m < 1000000000000000000000000000000
  · exact q
  · have := low m 30 (show 10 ^ 30 ≤ m by omega)
    omega
theorem isW_of {m : Nat} (h : m < 1000000000000000000000000000000) : isW (fg m) = true := by
  unfold isW
  simp only [Bool.and_eq_true, Bool.or_eq_true, decide_eq_true_eq, List.all_eq_true]
  refine ⟨⟨⟨fg_ge m, fg_le h⟩, fun c hc => fg_dig m c hc⟩, ?_⟩
  by_cases z : m = 0
  · subst z; exact .inl rfl
  · refine .inr fun e => fg_lead m z ?_
    have l1 := fg_ge m
    cases q : fg m with
    | nil => rw [q] at l1; exact absurd l1 (by decide)
    | cons c r => rw [q] at e; simpa using e
theorem fig_iff {c : Nat} (h : c ∈ (Str.ofString "0123456789").cps.toList) : 48 ≤ c ∧ c ≤ 57 := by
  have e : (Str.ofString "0123456789").cps.toList = [48, 49, 50, 51, 52, 53, 54, 55, 56, 57] := rfl
  rw [e] at h
  simp only [List.mem_cons, List.not_mem_nil, or_false] at h
  omega
theorem isW_short {l : List Nat} (h : ¬ 1 ≤ l.length) : isW l = false := by unfold isW; rw [decide_eq_false h]; rfl
theorem isW_long {l : List Nat} (h : ¬ l.length ≤ 30) : isW l = false := by unfold isW; rw [decide_eq_false h]; simp
theorem isW_odd {l : List Nat} {c : Nat} (hc : c ∈ l) (h : ¬ (48 ≤ c ∧ c ≤ 57)) : isW l = false := by
  have e : l.all (fun c => decide (48 ≤ c) && decide (c ≤ 57)) = false := by
    rw [List.all_eq_false]
    refine ⟨c, hc, ?_⟩
    simp only [Bool.and_eq_true, decide_eq_true_eq]
    exact h
  unfold isW
  rw [e]
  simp
theorem isW_last {l : List Nat} (h1 : 1 ≤ l.length) (h2 : l.length ≤ 30) (h3 : ∀ c ∈ l, 48 ≤ c ∧ c ≤ 57) : isW l = (decide (l = [48]) || decide (l.headD 0 ≠ 48)) := by
  have e : l.all (fun c => decide (48 ≤ c) && decide (c ≤ 57)) = true := by
    rw [List.all_eq_true]
    intro c hc
    simp only [Bool.and_eq_true, decide_eq_true_eq]
    exact h3 c hc
  unfold isW
  rw [e, decide_eq_true h1, decide_eq_true h2]
  rfl
theorem eq_nought {l : List Nat} : eqD (D.str (S l)) (D.str (Str.ofString "0")) = decide (l = [48]) := by
  by_cases h : l = [48]
  · subst h
    rw [decide_eq_true rfl]
    unfold eqD
    exact @decide_eq_true _ (Classical.propDecidable _) rfl
  · rw [decide_eq_false h]
    exact eqNe fun e => h (S_inj (D.str.inj e))
/-- a text that is a ratio, a point -/
def OkR (l : List Nat) : Prop := ∃ x y : Int, Cut.Low x y ∧ x.natAbs < 1000000000000000000000000000000 ∧ y.natAbs < 1000000000000000000000000000000 ∧ l = rl x y
def OkP (l : List Nat) : Prop := ∃ a b, OkR a ∧ OkR b ∧ l = a ++ 44 :: b
theorem rl_ge (x y : Int) : 1 ≤ (rl x y).length := by
  have e : 1 ≤ (wl x).length := by
    unfold wl
    split
    · rw [List.length_cons]; omega
    · exact fg_ge _
  unfold rl
  split
  · exact e
  · rw [List.length_append]; omega
theorem okR_nil : ¬ OkR [] := by
  rintro ⟨x, y, _, _, _, e⟩
  have := rl_ge x y
  rw [← e] at this
  exact absurd this (by decide)
theorem cut_at {l : List Nat} {c : Nat} : (∃ a b, l = a ++ c :: b ∧ c ∉ a) ∨ c ∉ l := by
  by_cases h : c ∈ l
  · obtain ⟨a, b, e, n⟩ := List.eq_append_cons_of_mem h
    exact .inl ⟨a, b, e, n⟩
  · exact .inr h
end L3

namespace Cut
open PySem L2 L3
open PySem.Builtin.Int (intBits)
end Cut

namespace Cut
open PySem L2 L3
/-! ### a point between two corners -/
end Cut

namespace Cut
open PySem L2 L3
/-! ### a ring cut: what lies at the one hand -/
section
variable (f : P3 → Int) (mt : P3 → P3 → P3)
end
variable {f : P3 → Int} {mt : P3 → P3 → P3}
end Cut

namespace Cut
open PySem L2 L3
end Cut

/-! for i, x in enumerate(l). -/
namespace L2
open PySem PySem.Spec PyProof.Rows PySem.W
section
variable {X : Cx} {pins : List (Addr × Obj)} {σ : St} {H : Hp} {s : Shared} {h' : Heap}
end
end L2
namespace L3
open PySem L2
section
variable {X : Cx} {a : Expr} {u : UE} {pos p : Pos}
end
end L3

namespace L3
open PySem L2
end L3
namespace Cut
open PySem L2 L3
end Cut
namespace Cut
open PySem L2 L3
theorem atI_nat {α : Type} {xs : List α} {i : Nat} {x : α} (h : xs[i]? = some x) : atI xs (i : Int) = some x := by
  have lt : i < xs.length := (List.getElem?_eq_some_iff.mp h).1
  unfold atI
  have e : L2.ixN xs.length (i : Int) = some i := by
    unfold L2.ixN
    rw [if_pos (by omega)]
    simp [lt]
  rw [e]
  exact h
end Cut
namespace Cut
open PySem L2 L3
end Cut
namespace Cut
open PySem L2 L3
end Cut

namespace PySem
open Sem (wp)
section
variable {prog : Program} {w : World} {A : Around} {E : Value → Shared → Prop} {s : Shared}
theorem entry_unchain : entryFor table "proto.unchain" = some Builtin.«proto.unchain» := entryFor_of_fast (by kernel_rfl)
theorem unchain_none {e h k : Value} {a : Addr} {oe : Obj} {vs : Array Value} {Q : Value → Shared → Prop} (hk : h = .ref a) (he : s.heap.get? a = some oe) (hd : oe.data = .fields vs) (h2 : vs[2]? = some .none) (q : Q .none s) :
    wpAny (model prog w) A (runValue (.builtin "proto.unchain" ⟨[e, h, k, .bool false], []⟩)) Q E s := by
  subst hk
  refine wpAny_runValue (codeAny_builtin entry_unchain ?_)
  show wpAny _ _ (field (.ref a) 2 >>= _) _ _ s
  refine wpAny_bind (wpAny_field he hd h2 ?_)
  show wpAny _ _ (ret .none >>= _) _ _ s
  exact wpAny_bind (wpAny_pure (wpAny_pure q))
theorem updateField_ok {a : Addr} {i : Nat} {v : Value} {o : Obj} {vs : Array Value} {Q : Unit → Shared → Prop} (ho : s.heap.get? a = some o) (hd : o.data = .fields vs) (hi : i < vs.size)
    (h : Q () { s with heap := s.heap.update a (Obj.mapFields (·.setIfInBounds i v)) }) : wpAny (model prog w) A (updateField a i v) Q E s := by
  unfold updateField
  refine wpAny_bind (wpAny_load ho ?_)
  rw [hd]
  show wpAny _ _ (if i < vs.size then _ else _) _ _ s
  rw [if_pos hi]
  exact wpAny_update ho h
theorem ref_ne {a b : Addr} (h : a ≠ b) : (Value.ref a != Value.ref b) = true := by
  simp [bne, BEq.beq, h]
theorem wpAny_pyNext_range_end_held {it a : Addr} {oe : Obj} {vs : Array Value} {x left step : Int} {Q : Option Value → Shared → Prop} (hh : A.handled = some (.ref a)) (he : s.heap.get? a = some oe) (hd : oe.data = .fields vs) (h2 : vs[2]? = some .none)
    (hit : IsRangeIter s.heap it x left step) (hleft : left ≤ 0)
    (hQ : ∀ h', Heap.ExtBut it s.heap h' → Q none { s with heap := h' }) : wpAny (model prog w) A (pyNext (.ref it)) Q E s := by
  have hT : s.TypeIs (.ref it) "range_iterator" := ⟨_, hit, rfl⟩
  unfold pyNext
  refine wpAny_bind (wpAny_attempt (wpAny_callSpecial?_slot (name := Str.ofString "__next__") hT F.slot_range_iterator_next
    (wpAny_call_entry F.slot_range_iterator_next hT F.entry_range_iterator_next ?_ (F.args_range_iterator_next_1 _))))
  show wpAny _ _ (field (.ref it) 0 >>= _) _ _ s
  refine wpAny_bind (wpAny_field hit rfl (x := rawInt x) rfl ?_)
  show wpAny _ _ (field (.ref it) 1 >>= _) _ _ s
  refine wpAny_bind (wpAny_field hit rfl (x := rawInt left) rfl ?_)
  show wpAny _ _ (field (.ref it) 2 >>= _) _ _ s
  refine wpAny_bind (wpAny_field hit rfl (x := rawInt step) rfl ?_)
  show wpAny _ _ (if left ≤ 0 then _ else _) _ _ s
  rw [if_pos hleft]
  refine wpAny_bind (wpAny_rule ?_)
  refine wpAny_bind ?_
  show wpAny _ _ (newExc (.type "StopIteration") [] >>= _) _ _ _
  refine wpAny_bind ?_
  simp only [newExc, newTuple]
  refine wpAny_bind (wpAny_newObj_type ?_ (by size_fits))
  refine wpAny_bind (m := firstArgMember _ _) (wpAny_of_eq (a := Value.none) (by first | rfl | (simp only [firstArgMember]; rfl)) ?_)
  refine wpAny_newObj_type ?_ (by size_fits)
  simp only [raiseNew]
  refine wpAny_bind (wpAny_handled ?_)
  first | rw [show A.in1.handled = some (.ref a) from hh] | rw [hh]
  dsimp only
  have lt := Heap.lt_size he
  have e1 : (s.heap.push { cls := Value.type "tuple", data := Data.seq #[] }).get? a = some oe := Heap.get?_push_of_some _ he
  have ne : a ≠ (s.heap.push { cls := Value.type "tuple", data := Data.seq #[] }).objs.size := Nat.ne_of_lt (Heap.lt_size e1)
  have lit := Nat.ne_of_lt (Heap.lt_size (Heap.get?_push_of_some { cls := Value.type "tuple", data := Data.seq #[] } hit))
  rw [if_pos (ref_ne ne)]
  refine wpAny_bind (wpAny_holding (unchain_none rfl (Heap.get?_push_of_some _ e1) hd h2 ?_))
  refine wpAny_bind (updateField_ok (Heap.get?_push_size _ rfl) rfl (by show 2 < 6; decide) ?_)
  refine wpAny_throw ?_
  refine wpAny_bind (wpAny_isInstance (T := "StopIteration") (b := true) ⟨_, Heap.get?_update_self _ (Heap.get?_push_size _ rfl) rfl, rfl⟩ isSubtype_stop ?_)
  refine wpAny_pure (hQ _ ?_)
  intro b o hb ho
  have h1 := Heap.get?_push_of_some (o := { cls := Value.type "tuple", data := Data.seq #[] }) ho
  have h2 := Nat.ne_of_lt (Heap.lt_size h1)
  exact (Heap.get?_update_ne _ _ _ _ h2).trans (Heap.get?_push_of_some _ h1)
end
end PySem

/-! The walk of a range, and a comprehension over it, while an exception without another one behind it is held. -/
namespace L2
open PySem PySem.Spec PyProof.Rows
/-- an exception is held, and pinned -/
def HeldAt (X : Cx) (pins : List (Addr × Obj)) : Prop := ∃ e oe, X.A.handled = some (.ref e) ∧ Bare1 oe ∧ (e, oe) ∈ X.pn ++ pins
def HeldX (X : Cx) : Prop := ∃ e oe, X.A.handled = some (.ref e) ∧ Bare1 oe ∧ (e, oe) ∈ X.pn
structure TurnH (P : Program) (w : World) (K : PySem.W.Frag) (tg : Expr) (J : It) (fp : List Addr) (it : Addr) (tn : Nat → Heap → Prop) : Prop where
  mem : it ∈ fp
  obj : ∀ i h, tn i h → ∀ b ∈ fp, ∃ o, h.get? b = some o ∧ ∀ v, o.data ≠ .cell v
  keep : ∀ i h h', tn i h → (∀ b ∈ fp, ∀ o, h.get? b = some o → h'.get? b = some o) → tn i h'
  item : ∀ (X : Cx), X.prog = P → X.w = w → X.K = K → ∀ (i : Nat) (pins : List (Addr × Obj)), HeldAt X pins → ∀ (s : Shared) (σ : St) (H : Hp) (E : Value → Shared → Prop), Inv X pins σ H s → (∀ b ∈ fp, FpOk X pins H b) → tn i s.heap → J.go i H →
    wpAny (model P w) X.A (pyNext (.ref it)) (fun r s1 => ∃ u, r = some u ∧
      wpAny (model P w) X.A (letOwnedTupleGo tg (.ref it) u) (fun _ s2 => ∃ x H', Inv X pins σ H' s2 ∧ RelV x u ∧ J.yld i H x H' ∧ tn (i + 1) s2.heap ∧ ∀ b ∈ fp, H' b = none) E s1) E s
  done : ∀ (X : Cx), X.prog = P → X.w = w → X.K = K → ∀ (i : Nat) (pins : List (Addr × Obj)), HeldAt X pins → ∀ (s : Shared) (σ : St) (H : Hp) (E : Value → Shared → Prop), Inv X pins σ H s → (∀ b ∈ fp, FpOk X pins H b) → tn i s.heap → J.stop i H →
    wpAny (model P w) X.A (pyNext (.ref it)) (fun r s1 => r = none ∧ Inv X pins σ H s1) E s
  self : ∀ (A : Around) (i : Nat) (s : Shared) (Q : Value → Shared → Prop) (E : Value → Shared → Prop), tn i s.heap → Q (.ref it) s → wpAny (model P w) A (pyIter (.ref it)) Q E s
def PIEH (X : Cx) (pins : List (Addr × Obj)) (σ : St) (tg : Expr) (R : It → Hp → Prop) (itv : Value) (s2 : Shared) : Prop :=
  ∃ (it : Addr) (fp : List Addr) (tn : Nat → Heap → Prop) (J : It) (H' : Hp), itv = .ref it ∧ Inv X pins σ H' s2 ∧ TurnH X.prog X.w X.K tg J fp it tn ∧ tn 0 s2.heap ∧ (∀ b ∈ fp, FpOk X pins H' b) ∧ R J H'
def PIH (X : Cx) (tg iter : Expr) (wi : TI) : Prop :=
  ∀ (pins : List (Addr × Obj)) (s : Shared) (σ : St) (H : Hp) (R : It → Hp → Prop), Inv X pins σ H s → wi σ H R →
    wpAny (model X.prog X.w) X.A (eval iter X.env) (fun v s1 => wpAny (model X.prog X.w) X.A (pyIter v) (PIEH X pins σ tg R) X.xe s1) X.xe s

theorem item_rngH {P : Program} {w : World} {A : Around} {s : Shared} {it : Addr} {lo : Int} {n i : Nat} {Q : Option Value → Shared → Prop} {E : Value → Shared → Prop} (hi : i < n) (st : IsRangeIter s.heap it (lo + (i : Nat) * 1) ((n : Int) - (i : Nat)) 1)
    (h : ∀ (v : Value) (h' : Heap) (tk : Nat), (∃ t, v = Value.int (lo + (i : Nat) * 1) t) → IsRangeIter h' it (lo + ((i + 1 : Nat) : Int) * 1) ((n : Int) - ((i + 1 : Nat) : Int)) 1 → (∀ (b : Addr) (o : Obj), b ∉ [it] → s.heap.get? b = some o → h'.get? b = some o) → Q (some v) { s with heap := h', toks := tk }) :
    wpAny (model P w) A (pyNext (.ref it)) Q E s :=
  wpAny_pyNext_range_item st (by omega) fun h' st' kk => h _ h' _ ⟨_, rfl⟩ (by rw [show lo + ((i + 1 : Nat) : Int) * 1 = lo + (i : Nat) * 1 + 1 by omega, show (n : Int) - ((i + 1 : Nat) : Int) = (n : Int) - (i : Nat) - 1 by omega]; exact st') fun b o hb e => kk.extBut b o (by simpa using hb) e
theorem turn_rangeH {P : Program} {w : World} {K : PySem.W.Frag} {tg : Expr} (it : Addr) (lo : Int) (n : Nat) : TurnH P w K tg (Itr lo n) [it] it (fun i h => IsRangeIter h it (lo + (i : Nat) * 1) ((n : Int) - (i : Nat)) 1) where
  mem := by simp
  obj := fun i h st b hb => by
    have e : b = it := by simpa using hb
    subst e
    exact ⟨_, st, fun v z => by
      have z' : Data.fields _ = Data.cell v := z
      cases z'⟩
  keep := fun i h h' st k => k it (by simp) _ st
  item := by
    intro X hP hw hK i pins hc s σ H E I hf st hg
    subst hP hw hK
    obtain ⟨f0, f1, f2, f3, f4, f5⟩ := hf it (by simp)
    refine item_rngH hg st fun v h' tk hv st' kk => ?_
    obtain ⟨t, rfl⟩ := hv
    have I1 : Inv X pins σ H { s with heap := h', toks := tk } := I.turned (fun b o hb e => kk b o (by simpa using hb) e) f0 f1 f3 f4 f5
    refine ⟨_, rfl, go_of (s := { s with heap := h', toks := tk }) (n := "range_iterator") st' rfl rfl (by decide) ⟨.int (lo + i), H, I1, ⟨t, ?_⟩, ⟨rfl, rfl⟩, st', fun b hb => (hf b hb).1⟩⟩
    rw [Int.mul_one]
  done := by
    intro X hP hw hK i pins hc s σ H E I hf st hg
    subst hP hw hK
    obtain ⟨f0, f1, f2, f3, f4, f5⟩ := hf it (by simp)
    obtain ⟨e, oe, h1, ⟨vs, h2, h3⟩, h4⟩ := hc
    exact wpAny_pyNext_range_end_held h1 (I.pin _ h4).1 h2 h3 st (by have : n ≤ i := hg; omega) fun h' eb => ⟨rfl, I.turned (t' := s.toks) (fun b o hb e => eb b o hb e) f0 f1 f3 f4 f5⟩
  self := fun _ _ _ _ _ st h => wpAny_pyIter_rangeiter st h
section
variable {X : Cx} {tg : Expr}
theorem range_itH {pins : List (Addr × Obj)} {σ : St} {H : Hp} {s : Shared} {R : It → Hp → Prop} {E : Value → Shared → Prop} {lo hi : Int} {t u v : Tok} {tk : Nat} (I : Inv X pins σ H s) (h1 : -(2 ^ 62) ≤ lo) (h2 : lo < 2 ^ 62) (h3 : -(2 ^ 62) ≤ hi) (h4 : hi < 2 ^ 62)
    (q : R (Itr lo (hi - lo).toNat) H) : wpAny (model X.prog X.w) X.A (pyIter (.ref s.heap.objs.size)) (PIEH X pins σ tg R) E { s with heap := s.heap.push { cls := .type "range", data := .fields #[.int lo t, .int hi u, .int 1 v] }, toks := tk } := by
  refine wpAny_pyIter_range (IsRange.new ..) (small_one h1 h2 h3 h4) ?_
  have I1 : Inv X pins σ H { s with heap := s.heap.push { cls := .type "range", data := .fields #[.int lo t, .int hi u, .int 1 v] }, toks := tk } := I.kept fun b o e => Heap.get?_push_of_some _ e
  refine ⟨(s.heap.push { cls := .type "range", data := .fields #[.int lo t, .int hi u, .int 1 v] }).objs.size, [(s.heap.push { cls := .type "range", data := .fields #[.int lo t, .int hi u, .int 1 v] }).objs.size], _, _, H, rfl,
    I1.kept (t' := tk) fun b o e => Heap.get?_push_of_some _ e, turn_rangeH _ lo (hi - lo).toNat, ?_, fun b hb => ?_, q⟩
  · have e1 : lo + ((0 : Nat) : Int) * 1 = lo := by simp
    have e2 : (((hi - lo).toNat : Nat) : Int) - ((0 : Nat) : Int) = Builtin.Range.rangeSize lo hi 1 := by rw [rangeSize_one]; split <;> omega
    show IsRangeIter _ _ (lo + ((0 : Nat) : Int) * 1) ((((hi - lo).toNat : Nat) : Int) - ((0 : Nat) : Int)) 1
    rw [e1, e2]
    exact Heap.get?_push_size _ rfl
  · have e : b = (s.heap.push { cls := .type "range", data := .fields #[.int lo t, .int hi u, .int 1 v] }).objs.size := by simpa using hb
    subst e
    exact I1.fpOk (Nat.le_refl _) (I1.hok.fresh (Nat.le_refl _))
theorem pi_range1H {a : Expr} {ta : TA} {p pos : Pos} (hg : Gl X "range") (hm : X.mg "range" = none) (ha : PA X [a] ta) (hs : starEach [a] X.env = [(false, eval a X.env)] := by rfl) : PIH X tg (.Call (.Name "range" p) [a] [] pos) (iRng1 ta) := by
  intro pins s σ H R I h
  refine Call_ (ld_blt I hg hm boot_range (PyProof.Rows.callWith_type1 (thn (ha pos pins s σ H _ I h) fun us s1 ⟨vs, H1, I1, r1, q1⟩ => ?_) hs rfl))
  obtain ⟨j, e, q1, q2, q⟩ := q1
  subst e
  cases r1 with
  | cons r rr =>
    cases rr
    obtain ⟨t, rfl⟩ := r
    exact call_range_1 (range_itH I1 (by omega) (by omega) q1 q2 (by simpa using q))
end
section
variable {Y : Cx} {elt tg src : Expr} {gens : List Comprehension} {ifs : List Expr} {sc : Scope} {ps : Pos} {d : Nat} {acc : Value} {wi : TI} {g : TG} {tt : TT} {te : TE} {em : TM} {em' : Sem Fin → Sem Fin}
theorem loop_emH {it : Addr} {J : It} {fp : List Addr} {tn : Nat → Heap → Prop} (ht : compTurn (.ListComp elt gens sc ps) d (.ref it) acc Y.env = turnF (.ListComp elt gens sc ps) d tg src ifs em' (.ref it) acc Y.env) (T : TurnH Y.prog Y.w Y.K tg J fp it tn) (hx : ∀ e s, ¬ Y.xe e s) (hg : PG Y tg g) (hts : PIfs Y ifs tt) (hem : EmOk Y em' em)
    {pins : List (Addr × Obj)} {W : Nat → Nat → St → Hp → Prop} {QS : St → Hp → Prop} {m0 : Nat} {s : Shared} {σ : St} {H : Hp} (hc : HeldAt Y pins) (I : Inv Y pins σ H s) (st : tn 0 s.heap) (fr : ∀ b ∈ fp, FpOk Y pins H b) (w0 : W 0 m0 σ H) (turn : Lp J g tt em W QS) {R : Result → Shared → Prop} (hR : ∀ s' σ' H', Inv Y pins σ' H' s' → QS σ' H' → R (.ok .next) s') :
    codeAny (model Y.prog Y.w) Y.A (.compLoop (.ListComp elt gens sc ps) d (.ref it) acc Y.env) R s := by
  have stat : ∀ {H' : Hp}, (∀ b ∈ fp, H' b = none) → ∀ b ∈ fp, FpOk Y pins H' b := fun hn b hb => ⟨hn b hb, (fr b hb).2⟩
  refine codeAny_loop rfl (fun n s' => ∃ i σ' H', Inv Y pins σ' H' s' ∧ tn i s'.heap ∧ (∀ b ∈ fp, H' b = none) ∧ W i n σ' H') (fun n s5 hv => ?_) m0 ⟨0, σ, H, I, st, fun b hb => (fr b hb).1, w0⟩
  show wpAny _ Y.A (Sem.onRaise (compTurn (.ListComp elt gens sc ps) d (.ref it) acc Y.env) _) _ _ s5
  rw [ht]
  unfold turnF
  refine wpAny_noted (wpAny_bind (wpAny_standAt (wpAny_bind ?_)))
  obtain ⟨i, σ5, H5, I5, st5, fr5, w5⟩ := hv
  rcases turn i n σ5 H5 w5 with ⟨stop, q⟩ | ⟨go, step⟩
  · refine wpAny_mono (T.done Y rfl rfl rfl i pins hc s5 σ5 H5 (fun _ _ => False) I5 (stat fr5) st5 stop) (fun r s6 ⟨hr, I6⟩ => ?_) (fun _ _ z => z.elim)
    subst hr
    exact wpAny_pure (hR _ _ _ I6 q)
  · refine wpAny_mono (T.item Y rfl rfl rfl i pins hc s5 σ5 H5 (fun _ _ => False) I5 (stat fr5) st5 go) (fun r s6 ⟨u, hr, h6⟩ => ?_) (fun _ _ z => z.elim)
    subst hr
    refine wpAny_bind (wpAny_mono h6 (fun _ s7 ⟨v, H7, I7, r7, y7, st7, fr7⟩ => ?_) (fun _ _ z => z.elim))
    have I7' := I7.pinned (stat fr7) (T.obj _ _ st7)
    have back : ∀ {s9 : Shared} {σ9 : St} {H9 : Hp} {n' : Nat}, Inv Y (pins ++ pinsAt fp s7.heap) σ9 H9 s9 → W (i + 1) n' σ9 H9 → ∃ i σ' H', Inv Y pins σ' H' s9 ∧ tn i s9.heap ∧ (∀ b ∈ fp, H' b = none) ∧ W i n' σ' H' := fun {s9 σ9 H9 n'} I9 w9 => by
      refine ⟨i + 1, σ9, H9, I9.unpinned, T.keep _ _ _ st7 fun b hb oo ee => (I9.pin (b, oo) (List.mem_append_right _ (List.mem_append_right _ (mem_pinsAt hb ee)))).1, fun b hb => ?_, w9⟩
      obtain ⟨oo, ee, _⟩ := T.obj _ _ st7 b hb
      exact (I9.pin (b, oo) (List.mem_append_right _ (List.mem_append_right _ (mem_pinsAt hb ee)))).2.1
    refine wpAny_bind (wpAny_mono (hg _ s7 σ5 H7 v u _ I7' r7 (step v H7 y7)) (fun _ s8 ⟨σ8, H8, I8, q8⟩ => ?_) (fun _ _ z => (hx _ _ z).elim))
    refine wpAny_bind (wpAny_mono (hts _ s8 σ8 H8 _ I8 q8) (fun b s9 ⟨H9, I9, q9⟩ => ?_) (fun _ _ z => (hx _ _ z).elim))
    cases b with
    | false =>
      rw [if_neg Bool.false_ne_true] at q9 ⊢
      obtain ⟨m', lm, w9⟩ := q9
      exact wpAny_pure ⟨rfl, m', lm, back I9 w9⟩
    | true =>
      rw [if_pos rfl] at q9 ⊢
      refine hem _ s9 σ8 H9 _ _ _ _ I9 q9 fun s' σ' H' I' q' => ?_
      obtain ⟨m', lm, w9⟩ := q'
      exact wpAny_pure ⟨rfl, m', lm, back I' w9⟩
end
section
variable {X : Cx}
theorem comp_blockMH {elt iter tg : Expr} {rest : List Comprehension} {ifs : List Expr} {pos : Pos} {scope : Scope} {cl : List (Str × Addr)} {ts fr : List Str} {js : List Nat} {wi : TI} {g : TG} {tt : TT} {em : Addr → TM} {em' : Value → PySem.Env → Sem Fin → Sem Fin} {use : Option (Value → Sem Unit)} {RQ : Value → Shared → Prop} {QE : VK}
    (hi : PIH X tg iter wi) (hg : ∀ C s H ex, PG (compCx X (ts ++ fr) scope cl C s H ex) tg g) (hts : ∀ C s H ex, PIfs (compCx X (ts ++ fr) scope cl C s H ex) ifs tt) (hem : ∀ D C s H ex, EmOk (compCx X (ts ++ fr) scope cl C s H ex) (em' (.ref D) (compEnvC scope cl C X.env)) (em D)) (htn : ∀ it acc env, compTurn (.ListComp elt (⟨tg, iter, ifs, 0⟩ :: rest) scope pos) 0 it acc env = turnF (.ListComp elt (⟨tg, iter, ifs, 0⟩ :: rest) scope pos) 0 tg iter ifs (em' acc env) it acc env)
    (F : FreeOk X scope cl fr js) (hc : HeldX X) (hs : ∀ v, foldedSetIterable iter X.env v = pure v)
    {pins : List (Addr × Obj)} {s : Shared} {σ : St} {H : Hp} (I : Inv X pins σ H s) (h : tCompM wi g tt em ts.length js σ H QE) (newAcc : Sem Value) (hnew : newAcc = newList []) (pp : Pos)
    (hR : ∀ (D C : Addr) (H5 : Hp) (s6 : Shared) (m : Str → Option Value), s6.heap.Ns C m → H5 C = none → C ≠ X.env.locals → X.s₀.heap.objs.size ≤ C → (∀ x c, X.env.cells.lookup x = some c → c ≠ C) → (∀ p ∈ X.pn ++ pins, p.1 ≠ C) → C ∉ X.fs →
      (∀ h' : Heap, (∀ b u, b ≠ C → s6.heap.get? b = some u → h'.get? b = some u) → Inv X pins σ H5 { s6 with heap := h' }) → QE (.ref D) H5 → compPost (model X.prog X.w) X.A X.xe use RQ (.ref D) C (.ok .next) s6) :
    wpAny (model X.prog X.w) X.A (comprehension (.ListComp elt (⟨tg, iter, ifs, 0⟩ :: rest) scope pos) scope X.env pp newAcc false (eval iter X.env) use) RQ X.xe s := by
  refine wpAny_comprehension_free (use := use) rfl hs F.clos F.kind F.names (thn (hi pins s σ H _ I h) fun xv s1 h1 => thn h1 fun itv s2 h2 => ?_)
  obtain ⟨it, fp, tn, J, H2, rfl, I2, T, st2, f2, h2⟩ := h2
  have hD : H2 s2.heap.objs.size = none := I2.fresh
  obtain ⟨W, ⟨m0, w0⟩, turn⟩ := h2 _ hD
  rw [hnew]
  refine wpAny_newObj_type ?_
  have I3 : Inv X pins σ (upd H2 s2.heap.objs.size (.lst [])) { s2 with heap := s2.heap.push { cls := .type "list", data := .seq ([] : List Value).toArray } } := I2.lnew (t' := s2.toks) (its := []) .nil (by show 0 ≤ sizeLine; decide)
  generalize hs3 : ({ s2 with heap := s2.heap.push { cls := .type "list", data := .seq ([] : List Value).toArray } } : Shared) = s3 at I3
  have e3 : s3.heap = s2.heap.push { cls := .type "list", data := .seq ([] : List Value).toArray } := by rw [← hs3]
  generalize hH3 : upd H2 s2.heap.objs.size (.lst []) = H3 at I3 w0
  generalize hDD : s2.heap.objs.size = D at hD hH3 w0 turn
  have k3 : ∀ b o, s2.heap.get? b = some o → s3.heap.get? b = some o := fun b o e => by rw [e3]; exact Heap.get?_push_of_some _ e
  have f3 : ∀ b ∈ fp, FpOk X pins H3 b := fun b hb => by
    obtain ⟨o, ho, _⟩ := T.obj _ _ st2 b hb
    have lt := Heap.lt_size ho
    refine ⟨?_, (f2 b hb).2⟩
    rw [← hH3, upd_ne (by rw [← hDD]; exact Nat.ne_of_lt lt)]
    exact (f2 b hb).1
  refine wpAny_newFunctionEnv F.cell (by intro y hy; simp at hy) (fun h1 hns hsb => ?_) F.kind
  have hC3 : s3.heap.get? s3.heap.objs.size = none := Heap.get?_none_of_le (Nat.le_refl _)
  have k4 : ∀ b o, s3.heap.get? b = some o → h1.get? b = some o := fun b o e => hsb.extBut b o (Nat.ne_of_lt (Heap.lt_size e)) (Heap.get?_push_of_some _ e)
  show codeAny (model X.prog X.w) X.A (.compStart (.ListComp elt (⟨tg, iter, ifs, 0⟩ :: rest) scope pos) 0 (.ref it) (.ref D) (compEnvC scope cl s3.heap.objs.size X.env)) (compPost (model X.prog X.w) X.A X.xe use RQ (.ref D) s3.heap.objs.size) _
  have ok : (compCx X (ts ++ fr) scope cl s3.heap.objs.size s3 H3 fp).Ok := by
    refine ⟨I3.ok.mod, F.kind, I3.ok.glob, I3.ok.blt, Nat.le_refl _, fun y z c e1 e2 => I3.ok.inj y z c (F.sub _ _ e1) (F.sub _ _ e2), fun y hy => F.has y hy, fun y c z => absurd z Bool.false_ne_true, I3.ok.hd, I3.ok.frames, .inl rfl, fun b hb => ?_, I3.bs, Nat.le_trans I3.ok.bsz I3.sz,
      fun b o e hb => ?_, fun b hb hf => ?_, I3.stack, I3.stkFree, I3.tabs⟩
    · obtain ⟨o, ho, _⟩ := T.obj _ _ st2 b hb
      exact ⟨Nat.ne_of_lt (Heap.lt_size (k3 b o ho)), fun y c e => (f3 b hb).2.2.2.2.1 y c (F.sub _ _ e)⟩
    · obtain ⟨_, _, _, z, _⟩ := f3 b hb
      rcases z with z | z
      · exact I3.ok.noex b o e z
      · exact absurd (Nat.lt_of_lt_of_le (Heap.lt_size (I3.ok.bs b o e).1) z) (Nat.lt_irrefl _)
    · rcases List.mem_cons.mp (I3.stkSub b hf) with z | z
      · exact (f3 b hb).2.1 z
      · exact (f3 b hb).2.2.1 z
  have frV : ∀ (hh : Heap), (∀ b u, s3.heap.get? b = some u → hh.get? b = some u) → ∀ (i : Nat) (y : Str) (v : V), fr[i]? = some y → (freeV σ js)[i]? = some (some v) → ∃ u, RelV v u ∧ ∀ m, Look (compEnvC scope cl s3.heap.objs.size X.env) hh m y u := fun hh kk i y v e1 e2 => by
    obtain ⟨j, ej, eN, hk, hkin, c, hcl⟩ := F.frn i y e1
    have e2' : σ[j]? = some (some v) := by
      unfold freeV at e2
      rw [List.getElem?_map, ej, Option.map_some] at e2
      have e2 := Option.some.inj e2
      cases q : σ[j]? with
      | none => rw [q] at e2; simp at e2
      | some z => rw [q] at e2; simpa using e2
    obtain ⟨m, hn, hl⟩ := I3.loc
    obtain ⟨u, r, l⟩ := hl j y v eN e2' (.inr (.inl hk))
    refine ⟨u, r, fun m' => .inr ⟨hkin, c, hcl, ?_⟩⟩
    rcases l with ⟨z, _⟩ | ⟨_, c', hc', hce⟩
    · rw [hk] at z; cases z
    · have e := F.sub _ _ hcl
      rw [hc'] at e; cases e
      obtain ⟨oo, q1, q2⟩ := hce
      exact ⟨oo, kk _ _ q1, q2⟩
  obtain ⟨ea, oe, hh1, hh2, hh3⟩ := hc
  have I4 : Inv (compCx X (ts ++ fr) scope cl s3.heap.objs.size s3 H3 fp) [(ea, oe)] (List.replicate ts.length none ++ freeV σ js) H3 { s3 with heap := h1, toks := s3.toks + ([] : List (Str × Value)).length } := by
    refine ⟨ok, rfl, I3.bare, Un.kept k4, ⟨_, hns, fun i y v e1 e2 e3 => ?_⟩, fun y c e => ?_, I3.fresh, fun y c e => I3.freeC y c (F.sub _ _ e), fun p hp => ?_, I3.hok.kept k4, ?_⟩
    · by_cases hlt : i < ts.length
      · rw [List.getElem?_append_left (by simpa using hlt), List.getElem?_replicate, if_pos hlt] at e2
        cases e2
      · have e1 : (ts ++ fr)[i]? = some y := e1
        rw [List.getElem?_append_right (by omega)] at e1
        rw [List.getElem?_append_right (by simp; omega), List.length_replicate] at e2
        obtain ⟨u, r, l⟩ := frV h1 k4 _ y v e1 e2
        exact ⟨u, r, l _⟩
    · obtain ⟨v, oo, q1, q2⟩ := I3.cell y c (F.sub _ _ e)
      exact ⟨v, oo, k4 _ _ q1, q2⟩
    · have e : p = (ea, oe) := List.mem_singleton.mp (show p ∈ [(ea, oe)] from hp)
      subst e
      obtain ⟨p1, p2, p3, p4, p5⟩ := I3.pin _ (List.mem_append_left _ hh3)
      exact ⟨k4 _ _ p1, p2, Nat.ne_of_lt (Heap.lt_size p1), fun z => by
        rcases List.mem_cons.mp (I3.stkSub _ z) with y | y
        · exact p3 y
        · exact p4 y, p5⟩
    · show _ = (ts ++ fr).length
      rw [List.length_append, List.length_append, List.length_replicate]
      unfold freeV
      rw [List.length_map, F.len]
  have stat : ∀ {H' : Hp}, (∀ b ∈ fp, H' b = none) → ∀ b ∈ fp, FpOk (compCx X (ts ++ fr) scope cl s3.heap.objs.size s3 H3 fp) [(ea, oe)] H' b := fun hn b hb => by
    obtain ⟨o, ho, _⟩ := T.obj _ _ st2 b hb
    exact ⟨hn b hb, (ok.exf b hb).1, ok.exfs b hb, .inl hb, (ok.exf b hb).2, fun p hp => by
      have e : p = (ea, oe) := List.mem_singleton.mp (show p ∈ [(ea, oe)] from hp)
      subst e
      exact (f3 b hb).2.2.2.2.2 _ (List.mem_append_left _ hh3)⟩
  have loop : ∀ s4 : Shared, s4 = { s3 with heap := h1, toks := s3.toks + ([] : List (Str × Value)).length } →
      codeAny (model X.prog X.w) X.A (.compLoop (.ListComp elt (⟨tg, iter, ifs, 0⟩ :: rest) scope pos) 0 (.ref it) (.ref D) (compEnvC scope cl s3.heap.objs.size X.env)) (compPost (model X.prog X.w) X.A X.xe use RQ (.ref D) s3.heap.objs.size) s4 := by
    intro s4 e4
    rw [← e4] at I4
    have st4 : tn 0 s4.heap := T.keep _ _ _ st2 fun b _ o e => by rw [e4]; exact k4 b o (k3 b o e)
    refine loop_emH (Y := compCx X (ts ++ fr) scope cl s3.heap.objs.size s3 H3 fp) (QS := fun _ H5 => QE (.ref D) H5) (htn _ _ _) T (fun _ _ z => z) (hg _ _ _ _) (hts _ _ _ _) (hem D _ _ _ _) ⟨ea, oe, hh1, hh2, List.mem_append_right _ (List.mem_singleton.mpr rfl)⟩ I4 st4 (stat fun b hb => (f3 b hb).1) w0 turn fun s6 σ5 H5 I6 q => ?_
    obtain ⟨m, hn, _⟩ := id I6.loc
    refine hR D s3.heap.objs.size H5 s6 m hn I6.free (Nat.ne_of_gt I3.lt) I3.sz (fun y c e z => ?_) (fun p hp z => ?_) (I3.nofs (Nat.le_refl _)) (fun h' kb => ?_) q
    · obtain ⟨v, oo, q1, q2⟩ := I3.cell y c e
      exact absurd (Heap.lt_size q1) (by rw [z]; exact Nat.lt_irrefl _)
    · exact absurd (Heap.lt_size (I3.pin p hp).1) (by rw [z]; exact Nat.lt_irrefl _)
    · refine I3.call' (s' := { s6 with heap := h' }) (ch := fp) I6.os ((show Un (frs X.stack) fp H3 H5 s3.heap s6.heap from I6.base).but hC3 kb) (I6.hok.but I6.free kb) I6.bare (fun b hb => ?_)
      obtain ⟨_, z1, _, z3, z4, z5⟩ := f3 b hb
      exact ⟨z3, z1, z4, z5⟩
  exact codeAny_compStart_list (loop _ rfl) (T.self _ 0 _ _ _ (T.keep _ _ _ st2 fun b _ o e => k4 b o (k3 b o e)) (loop _ rfl))
theorem pe_compMH {elt iter tg : Expr} {rest : List Comprehension} {ifs : List Expr} {pos : Pos} {scope : Scope} {cl : List (Str × Addr)} {ts fr : List Str} {js : List Nat} {wi : TI} {g : TG} {tt : TT} {em : Addr → TM} {em' : Value → PySem.Env → Sem Fin → Sem Fin}
    (hi : PIH X tg iter wi) (hg : ∀ C s H ex, PG (compCx X (ts ++ fr) scope cl C s H ex) tg g) (hts : ∀ C s H ex, PIfs (compCx X (ts ++ fr) scope cl C s H ex) ifs tt) (hem : ∀ D C s H ex, EmOk (compCx X (ts ++ fr) scope cl C s H ex) (em' (.ref D) (compEnvC scope cl C X.env)) (em D)) (htn : ∀ it acc env, compTurn (.ListComp elt (⟨tg, iter, ifs, 0⟩ :: rest) scope pos) 0 it acc env = turnF (.ListComp elt (⟨tg, iter, ifs, 0⟩ :: rest) scope pos) 0 tg iter ifs (em' acc env) it acc env)
    (F : FreeOk X scope cl fr js) (hc : HeldX X) (hs : ∀ v, foldedSetIterable iter X.env v = pure v) : PE X (.ListComp elt (⟨tg, iter, ifs, 0⟩ :: rest) scope pos) (tCompM wi g tt em ts.length js) := by
  intro pins s σ H Q I h
  rw [eval_ListComp]
  refine comp_blockMH hi hg hts hem htn F hc hs I h _ rfl _ fun D C H5 s6 m hn _ _ _ _ _ _ iv q => ⟨m, hn, fun h' hs' => ⟨.ref D, H5, iv h' fun b u hb e => hs'.extBut b u hb e, rfl, q⟩⟩
theorem pe_compGH {elt iter tg : Expr} {ifs : List Expr} {pos : Pos} {scope : Scope} {cl : List (Str × Addr)} {ts fr : List Str} {js : List Nat} {wi : TI} {g : TG} {tt : TT} {te : TE}
    (hi : PIH X tg iter wi) (hg : ∀ C s H ex, PG (compCx X (ts ++ fr) scope cl C s H ex) tg g) (hts : ∀ C s H ex, PIfs (compCx X (ts ++ fr) scope cl C s H ex) ifs tt) (helt : ∀ C s H ex, PE (compCx X (ts ++ fr) scope cl C s H ex) elt te)
    (F : FreeOk X scope cl fr js) (hc : HeldX X) (hs : ∀ v, foldedSetIterable iter X.env v = pure v) : PE X (.ListComp elt [⟨tg, iter, ifs, 0⟩] scope pos) (tCompG wi g tt te ts.length js) :=
  pe_compMH (rest := []) (em := emE te) hi hg hts (fun D C s H ex => em_elt (Y := compCx X (ts ++ fr) scope cl C s H ex) (helt C s H ex) fun _ _ z => z) (fun _ _ _ => rfl) F hc hs
end
end L2

/-! A def called while an exception is held; a try whose handler knows the names. -/
namespace L2
open PySem PySem.Spec PyProof.Rows PySem.W
structure RoomH (k : Nat) (A : Around) : Prop where
  dp : A.depth + 3 * k + 5 < recursionLimit
  un : A.units + 16 * k + 200 < cLine
theorem RoomH.mono {j k : Nat} {A : Around} (r : RoomH k A) (h : j ≤ k) : RoomH j A := ⟨by have := r.dp; omega, by have := r.un; omega⟩
theorem RoomH.deeper {k : Nat} {A : Around} (r : RoomH (k + 1) A) (env : Env) : RoomH k (A.deeper env) := ⟨by have := r.dp; show A.depth + 1 + 3 * k + 5 < _; omega, by have := r.un; show A.units + 3 + 16 * k + 200 < _; omega⟩
theorem RoomH.depth {k : Nat} {A : Around} (r : RoomH k A) : A.depth < recursionLimit := by have := r.dp; omega
theorem RoomH.units {k : Nat} {A : Around} (r : RoomH k A) : A.units + 64 < cLine := by have := r.un; omega
/-- the exception that is held: where it is, and that it is none of what is tracked -/
structure HeldIn (A : Around) (outer : List Env) (s : Shared) (H : Hp) (e : Addr) (oe : Obj) : Prop where
  hd : A.handled = some (.ref e)
  b1 : Bare1 oe
  get : s.heap.get? e = some oe
  fr : H e = none
  nf : e ∉ frs outer
/-- the context of a def's body that is called while an exception is held -/
abbrev cxOfH (CX : CXT) (P : Program) (w : World) (K : PySem.W.Frag) (mg : Str → Option Value) (base : Heap) (N : List Str) (qual : Str) (scope : Scope) (f : Addr) (cd : Value) (A : Around) (outer : List Env) (s : Shared) (H : Hp) (E : XK) (e : Addr) (oe : Obj) : Cx :=
  { cxOf CX P w K mg base N qual scope f cd A outer s H E with calm := false, pn := [(e, oe)] }
structure FnOkH (P : Program) (w : World) (K : PySem.W.Frag) (mg : Str → Option Value) (base : Heap) (k : Nat) (f : Addr) (fd : FuncData) (ps : List Str) (sp : Addr → Obj → Sp) : Prop where
  len : ∀ e oe vs H Q E, sp e oe vs H Q E → vs.length = ps.length
  run : ∀ (e : Addr) (oe : Obj) (A : Around) (outer : List Env) (s : Shared) (H : Hp) (args : Args) (us : List Value) (vs : List V) (Q : VK) (E : XK), HeldIn A outer s H e oe → RoomH k A → Env0 P w K mg base A outer s H → BindsTo s fd args (ps.zip us) → Vals vs us → sp e oe vs H Q E →
    codeAny (model P w) A (.call (.ref f) args) (CR CX0 outer P w H s Q E) s
theorem inv_startH {CX : CXT} {P : Program} {w : World} {K : PySem.W.Frag} {mg : Str → Option Value} {base : Heap} {N ps : List Str} {qual : Str} {scope : Scope} {f : Addr} {cd : Value} {A : Around} {outer : List Env} {s s1 : Shared} {H : Hp} {E : XK} {us : List Value} {vs : List V} {ea : Addr} {oe : Obj}
    (S : FnScope N ps scope) (hi : HeldIn A outer s H ea oe) (e0 : Env0 P w K mg base A outer s H) (hl : vs.length = ps.length) (r : Vals vs us)
    (x : InCallC s s.heap.objs.size (bindL (envOfC qual scope s.heap.objs.size f cd).kindOf (ps.zip us) fun _ => none) (cellsFrom (s.heap.objs.size + 1) scope.names []) (bindC (envOfC qual scope s.heap.objs.size f cd).kindOf (ps.zip us) fun _ => none) s1) :
    Inv (cxOfH CX P w K mg base N qual scope f cd A outer s H E ea oe) [] (start N vs) H s1 := by
  have hpl : ps.length ≤ N.length := by have := congrArg List.length S.pre; rw [List.length_take] at this; omega
  obtain ⟨h1, tk, rfl, hk⟩ := x.done
  have noA : ∀ b : Addr, b ∉ (cxOfH CX P w K mg base N qual scope f cd A outer s H E ea oe).ex := fun b z => absurd (show b ∈ ([] : List Addr) from z) (by simp)
  refine ⟨⟨e0.mod, S.kind, rfl, rfl, Nat.le_refl _, fun y z c h1 h2 => ?_, fun y hy => ?_, fun y c _ h => ?_, fun z => absurd z Bool.false_ne_true, Around.frames_deeper e0.frames, .inr ⟨rfl, rfl⟩, fun b z => absurd z (noA b), e0.bs, e0.bsz, fun b _ _ => noA b, fun b z => absurd z (noA b), e0.funs, e0.frf, e0.tab⟩,
    rfl, e0.bare, Un.kept hk, ⟨_, x.toInCall.ns, fun i y v h1 h2 h3 => ?_⟩, fun y c h => ⟨_, x.cell y c h⟩, e0.hok.fresh (Nat.le_refl _), fun y c h => ?_, fun p hp => ?_, e0.hok.kept hk, ?_⟩
  · exact name_of_addr x.apart (PySem.mem_of_lookup h1) (PySem.mem_of_lookup h2)
  · have hy : scope.names.lookup y = some .cell ∨ scope.names.lookup y = some .free := hy
    rcases hy with hy | hy
    · exact cell_has hy
    · exact absurd rfl (S.nofree _ (PySem.mem_of_lookup hy))
  · exact Nat.le_of_lt (x.above y c (PySem.mem_of_lookup h))
  · have hi : i < vs.length := by
      unfold start at h2
      by_cases hi : i < vs.length
      · exact hi
      · rw [List.getElem?_append_right (by simpa using hi)] at h2
        rw [List.getElem?_replicate] at h2
        split at h2 <;> cases h2
    have ha : vs[i]? = some v := by
      unfold start at h2
      rw [List.getElem?_append_left (by simpa using hi), List.getElem?_map] at h2
      cases e : vs[i]? with
      | none => rw [e] at h2; cases h2
      | some a => rw [e] at h2; cases h2; rfl
    obtain ⟨u, hu, rv⟩ := r.get ha
    have hp : ps[i]? = some y := by
      rw [← S.pre, List.getElem?_take_of_lt (by omega)]; exact h1
    have ndP : ps.Nodup := by rw [← S.pre]; exact S.nd.sublist (List.take_sublist _ _)
    refine ⟨u, rv, ?_⟩
    rcases S.par y (List.mem_of_getElem? hp) with k | k
    · exact .inl ⟨k, bindL_get ndP hp hu k⟩
    · obtain ⟨c, e⟩ := cell_has (n := s.heap.objs.size + 1) k
      refine .inr ⟨.inl k, c, e, ?_⟩
      have q := x.cell y c e
      rw [bindC_get ndP hp hu (by show scope.names.lookup y ≠ _; rw [k]; decide)] at q
      exact q
  · exact e0.hok.fresh (Nat.le_of_lt (x.above y c (PySem.mem_of_lookup h)))
  · have ep : p = (ea, oe) := List.mem_singleton.mp (show p ∈ [(ea, oe)] by simpa using hp)
    subst ep
    refine ⟨hk _ _ hi.get, hi.fr, Nat.ne_of_lt (Heap.lt_size hi.get), hi.nf, fun v z => ?_⟩
    obtain ⟨vv, q1, _⟩ := hi.b1
    rw [q1] at z; cases z
  · unfold start
    show _ = N.length
    rw [List.length_append, List.length_map, List.length_replicate]
    omega

theorem fn_ofH {P : Program} {w : World} {K : PySem.W.Frag} {mg : Str → Option Value} {base : Heap} {k : Nat} {f : Addr} {name qual : Str} {params : Arguments} {body : List Stmt} {scope : Scope} {dV kV doc pm cdv ct oc : Value} {an od : Option Addr}
    {osl : Array (Option Value)} {N ps : List Str} {sp : Addr → Obj → Sp} (lk : K.lookup f = some ⟨oc, od, .func (PySem.W.fnOf name qual params body scope dV kV doc pm an cdv ct), osl⟩) (hcd : PySem.W.codeIn K cdv qual = true) (S : FnScope N ps scope)
    (len : ∀ e oe vs H Q E, sp e oe vs H Q E → vs.length = ps.length)
    (hbody : ∀ (e : Addr) (oe : Obj) (A : Around) (outer : List Env) (s : Shared) (H : Hp) (vs : List V) (Q : VK) (E : XK), HeldIn A outer s H e oe → RoomH k (A.deeper (envOfC qual scope s.heap.objs.size f cdv)) → sp e oe vs H Q E →
      ∃ t, PSs (cxOfH CX0 P w K mg base N qual scope f cdv A outer s H E e oe) body t ∧ t { nx := fun _ H' => Q .non H', rt := Q } (start N vs) H) :
    FnOkH P w K mg base (k + 1) f (PySem.W.fnOf name qual params body scope dV kV doc pm an cdv ct) ps sp := by
  refine ⟨len, fun e oe A outer s H args us vs Q E hi hr e0 hb r hsp => ?_⟩
  have hl := len _ _ _ _ _ _ hsp
  have KX : K.In s.heap := e0.mod.kin.keeps fun b o e => (e0.bs b o e).1
  have lim : s.heap.NoLimit := e0.mod.nolimit.keeps fun b o e => (e0.bs b o e).1
  have hkind : ∀ y ∈ ps.zip us, scope.names.lookup y.1 = some .local ∨ (scope.names.lookup y.1 = some .cell ∧ ((cellsFrom (s.heap.objs.size + 1) scope.names []).lookup y.1).isSome = true) := fun ⟨n, v⟩ hy => by
    rcases S.par n (List.of_mem_zip hy).1 with q | q
    · exact .inl q
    · exact .inr ⟨q, PySem.W.cellsFrom_some _ _ _ (.inl q)⟩
  refine codeAny_call_function hr.depth (KX _ _ lk) rfl S.co S.gen rfl (PySem.W.codeRec_of KX hcd) (hb _ _ _ _ ?_)
  refine wpAny_newFunctionEnv_cells S.kind hkind fun env he s1 x => ?_
  subst he
  refine ⟨lim.keeps x.toInCall.keep, codeAny_func ?_⟩
  obtain ⟨t, ht, hq⟩ := hbody e oe A outer s H vs Q E hi (hr.deeper _) hsp
  have I : Inv (cxOfH CX0 P w K mg base N qual scope f cdv A outer s H E e oe) [] (start N vs) H s1 := inv_startH S hi e0 hl r x
  refine wpAny_mono (ht [] s1 (start N vs) H _ I hq) (fun fl s' hs => ?_) fun _ s' hs => hs
  have fin : ∀ {σ' : St} {H' : Hp} {v : V} {u : Value}, Inv (cxOfH CX0 P w K mg base N qual scope f cdv A outer s H E e oe) [] σ' H' s' → RelV v u → Q v H' → CE outer P w H s Q u s' :=
    fun {σ' H' v u} J rv q => ⟨v, H', J.os, J.bare, J.base, J.hok, rv, q⟩
  cases fl with
  | ret u =>
    obtain ⟨v, σ', H', J, rv, q⟩ := hs
    exact fin J rv q
  | next =>
    obtain ⟨σ', H', J, q⟩ := hs
    exact fin (v := V.non) (u := Value.none) J rfl q
  | brk =>
    obtain ⟨_, _, _, q⟩ := hs
    exact False.elim q
  | cont =>
    obtain ⟨_, _, _, q⟩ := hs
    exact False.elim q
/-- a def of the text that keeps a contract while an exception is held -/
structure CalH (P : Program) (w : World) (K : PySem.W.Frag) (mg : Str → Option Value) (base : Heap) (x : Str) (ps : List Str) (k : Nat) (sp : Addr → Obj → Sp) : Prop where
  ex : ∃ f fd, mg x = some (.ref f) ∧ PySem.W.keepIn K (.ref f) = true ∧ Binds K fd ps [] ∧ FnOkH P w K mg base k f fd ps sp
theorem Fnd.okH {P : Program} {w : World} {K : PySem.W.Frag} {mg : Str → Option Value} {base : Heap} {x : Str} {st : Stmt} {N ps : List Str} {k : Nat} {sp : Addr → Obj → Sp} (F : Fnd K mg x st ps) (S : FnScope N ps (defScope st)) (len : ∀ e oe vs H Q E, sp e oe vs H Q E → vs.length = ps.length)
    (hbody : ∀ (f : Addr) (cdv : Value) (e : Addr) (oe : Obj) (A : Around) (outer : List Env) (s : Shared) (H : Hp) (vs : List V) (Q : VK) (E : XK), HeldIn A outer s H e oe → RoomH k (A.deeper (envOfC x (defScope st) s.heap.objs.size f cdv)) → sp e oe vs H Q E →
      ∃ t, PSs (cxOfH CX0 P w K mg base N x (defScope st) f cdv A outer s H E e oe).nox (defBody st) t ∧ t { nx := fun _ H' => Q .non H', rt := Q } (start N vs) H) : CalH P w K mg base x ps (k + 1) sp := by
  obtain ⟨f, fd, m, Fu, b⟩ := F.ex
  refine ⟨f, fd, m, Fu.kp, b, ?_⟩
  obtain ⟨oc, od, kV, doc, pm, an, cdv, ct, osl, rfl, lk, hcd⟩ := Fu.ex
  refine fn_ofH lk hcd S len fun e oe A outer s H vs Q E hi hr hsp => ?_
  obtain ⟨t, h, q⟩ := hbody f cdv e oe A outer s H vs Q E hi hr hsp
  exact ⟨t, h.nox, q⟩
section
variable {X : Cx}
theorem pe_calH {x : Str} {ps : List Str} {j k : Nat} {sp : Addr → Obj → Sp} {p pos : Pos} {e : Expr} {es : List Expr} {t : TA} {ea : Addr} {oe : Obj} (c : CalH X.prog X.w X.K X.mg X.base x ps j sp) (hr : RoomH k X.A) (hh : X.A.handled = some (.ref ea)) (hb1 : Bare1 oe) (hp : (ea, oe) ∈ X.pn) (hg : Gl X x) (ha : PA X (e :: es) t) (hjk : j ≤ k := by decide)
    (hdb : (x == ("__debug__" : Str)) = false := by decide) (he : starEach (e :: es) X.env = (false, eval e X.env) :: starEach es X.env := by rfl) (hpl : (backTo pos (starEach es X.env)).any (·.1) = false := by rfl) :
    PE X (.Call (.Name x p) (e :: es) [] pos) (fun σ H Q => t σ H fun vs H1 => sp ea oe vs H1 Q E0) := by
  obtain ⟨f, fd, hm, hk, hb, F⟩ := c.ex
  intro pins s σ H Q I h
  refine wpAny_Call_Name_kw (ld_glob I hg hm ?_ hdb)
  refine PySem.W.callWith_K (h₀ := X.base) I.ok.mod.kin hk (thn (ha pos pins s σ H _ I h) fun us s1 ⟨vs, H1, I1, r, q⟩ => ⟨I1.kIn, ?_⟩) he hpl
  have r2 : Vals (vs ++ []) (us ++ []) := r.append .nil
  rw [List.append_nil, List.append_nil] at r2
  have hl : us.length = ps.length := by rw [← r2.length]; exact F.len _ _ _ _ _ _ q
  obtain ⟨p1, p2, p3, p4, p5⟩ := I1.pin _ (List.mem_append_left _ hp)
  have nf : ea ∉ frs X.stack := fun z => by
    rcases List.mem_cons.mp (I1.stkSub _ z) with y | y
    · exact p3 y
    · exact p4 y
  refine wpAny_call (codeAny_mono (F.run ea oe X.A X.stack s1 H1 ⟨us, []⟩ us vs Q E0 ⟨hh, hb1, p1, p2, nf⟩ (hr.mono hjk) I1.env0 (by have := hb s1 us I1.kIn (by rw [List.append_nil]; exact hl); rwa [List.append_nil] at this) r2 q) fun r s' hq => ?_)
  cases r with
  | error e => exact pass0 pins σ H1 s1 e s' I1 hq
  | ok fl =>
    cases fl with
    | ret u => exact I1.after hq
    | next => exact False.elim hq
    | brk => exact False.elim hq
    | cont => exact False.elim hq
/-- what passes, by the names' state -/
def PassesS (CX : CXT) (X : Cx) (E : St → XK) : Prop := ∀ (pins : List (Addr × Obj)) (σ : St) (H : Hp) (s : Shared) (e : Value) (s' : Shared), Inv X pins σ H s → CX X.stack H s (E σ) e s' → X.xe e s'
/-- a call that raises -/
theorem pe_calMS {x : Str} {ps : List Str} {j k : Nat} {C : Addr} {pr : List V → Hp → Prop} {E : St → XK} {p pos : Pos} {e : Expr} {es : List Expr} {t : TA} (c : CalM X.prog X.w X.K X.mg X.base x ps j C pr) (hr : Room k X.A) (hx : PassesS (CXm X.prog X.w C) X E) (hg : Gl X x) (ha : PA X (e :: es) t) (hjk : j ≤ k := by decide)
    (hdb : (x == ("__debug__" : Str)) = false := by decide) (he : starEach (e :: es) X.env = (false, eval e X.env) :: starEach es X.env := by rfl) (hpl : (backTo pos (starEach es X.env)).any (·.1) = false := by rfl) :
    PE X (.Call (.Name x p) (e :: es) [] pos) (fun σ H _ => t σ H fun vs H1 => pr vs H1 ∧ ∀ H2, Same H1 H2 → E σ (.ref C) none H2) := by
  obtain ⟨f, fd, hm, hk, hb, F⟩ := c.ex
  intro pins s σ H Q I h
  refine wpAny_Call_Name_kw (ld_glob I hg hm ?_ hdb)
  refine PySem.W.callWith_K (h₀ := X.base) I.ok.mod.kin hk (thn (ha pos pins s σ H _ I h) fun us s1 ⟨vs, H1, I1, r, q⟩ => ⟨I1.kIn, ?_⟩) he hpl
  have r2 : Vals vs us := r
  have hl : us.length = ps.length := by rw [← r2.length]; exact F.len vs H1 (fun _ _ => False) (E σ) q
  refine wpAny_call (codeAny_mono (F.run X.A X.stack s1 H1 ⟨us, []⟩ us vs (fun _ _ => False) (E σ) (hr.mono hjk) I1.env0 (by have := hb s1 us I1.kIn (by rw [List.append_nil]; exact hl); rwa [List.append_nil] at this) r2 q) fun r s' hq => ?_)
  cases r with
  | error e => exact hx pins σ H1 s1 e s' I1 hq
  | ok fl =>
    cases fl with
    | ret u => obtain ⟨_, _, _, _, _, _, _, z⟩ := hq; exact z.elim
    | next => exact False.elim hq
    | brk => exact False.elim hq
    | cont => exact False.elim hq
end
section
variable {X : Cx} {pins : List (Addr × Obj)} {σ : St} {H : Hp} {s : Shared}
def xkOfS (C : Addr) (N : Nat) (ie : Nat) (D : Ends) (ts : Addr → TS) : St → XK := fun σ c _ H => c = .ref C ∧ ∀ (e : Addr), H e = none → σ.length = N → ts e { nx := fun _ _ => False, rt := D.rt } (σ.set ie (some (.ref e))) H
theorem ps_tryHS {C D0 : Addr} {x n : Str} {np hp pos : Pos} {body suite : List Stmt} {b0 : Stmt} {tb : (St → XK) → TS} {ts : Addr → TS} {ie : Nat}
    (own : (clsIn X.K D0).isSome = true) (ty : typeIn X.K (.ref D0) = some (.type "type")) (base : subIn X.K (.ref D0) (.type "BaseException") = some true) (sub : subIn X.K (.ref C) (.ref D0) = some true)
    (hstk : X.stack = X.env :: X.outer ∧ X.env.frame = some X.env.locals) (hg : Gl X x) (hm : X.mg x = some (.ref D0)) (hN : X.N.Nodup) (hi : X.N[ie]? = some n) (hl : X.env.scope.names.lookup n = some .local)
    (hb : ∀ pn xe EK, PassesS (CXm X.prog X.w C) (X.pinw pn xe) EK → PSs (X.pinw pn xe) body (tb EK))
    (hs : ∀ (e : Addr) (oe : Obj) pn, oe.cls = .ref C → Bare1 oe → PSs (X.hand e ((e, oe) :: pn)) (b0 :: suite) (ts e))
    (hd : (x == ("__debug__" : Str)) = false := by decide) :
    PS X (.Try body [.ExceptHandler (some (.Name x np)) (some n) (b0 :: suite) hp] [] [] pos) (fun D σ H => tb (xkOfS C X.N.length ie D ts) D σ H) := by
  intro pins s σ H D I h
  have hlk : X.env.kindOf n = some .local := hl
  refine wpAny_Try_except ?_
  refine wpAny_mono (hb (X.pn ++ pins) (fun e s1 => wpAny (model X.prog X.w) X.A (noteFrame e X.env) (fun _ s2 => wpAny (model X.prog X.w) X.A (setFlight e none) (fun _ s3 => wpAny (model X.prog X.w) X.A (handleBy e X.env [.ExceptHandler (some (.Name x np)) (some n) (b0 :: suite) hp]) (SP X pins D) X.xe s3) X.xe s2) X.xe s1) (xkOfS C X.N.length ie D ts) ?_ [] s σ H D (I.pinw _) h) (fun f s1 q => ?_) (fun e s1 z => z)
  case refine_2 =>
    have back : ∀ {σ' H'}, Inv (X.pinw (X.pn ++ pins) (fun e s1 => wpAny (model X.prog X.w) X.A (noteFrame e X.env) (fun _ s2 => wpAny (model X.prog X.w) X.A (setFlight e none) (fun _ s3 => wpAny (model X.prog X.w) X.A (handleBy e X.env [.ExceptHandler (some (.Name x np)) (some n) (b0 :: suite) hp]) (SP X pins D) X.xe s3) X.xe s2) X.xe s1)) [] σ' H' s1 → Inv X pins σ' H' s1 :=
      fun J => ⟨I.ok, J.os, J.bare, J.base, J.loc, J.cell, J.free, J.freeC, fun p hp => J.pin p (by simpa using hp), J.hok, J.len⟩
    cases f with
    | next => obtain ⟨σ', H', J, q⟩ := q; exact wpAny_execs_nil ⟨σ', H', back J, q⟩
    | brk => obtain ⟨σ', H', J, q⟩ := q; exact ⟨σ', H', back J, q⟩
    | cont => obtain ⟨σ', H', J, q⟩ := q; exact ⟨σ', H', back J, q⟩
    | ret u => obtain ⟨v, σ', H', J, r, q⟩ := q; exact ⟨v, σ', H', back J, r, q⟩
  intro pins' σ1 H0 s1 v s2 J hx
  obtain ⟨e, a0, B, H1, rfl, os, bare, un, hB, fl, there, b2, hE1, hE⟩ := hx
  have J0 : Inv X (pins' ++ pins) σ1 H0 s1 := ⟨I.ok, J.os, J.bare, J.base, J.loc, J.cell, J.free, J.freeC, fun p hp => J.pin p (by
    simp only [List.mem_append] at hp ⊢
    rcases hp with z | z | z
    · exact .inl (.inl z)
    · exact .inr z
    · exact .inl (.inr z)), J.hok, J.len⟩
  have fl' : Heap.FlyingW B (X.env :: X.outer) e (.ref C) a0 s2.heap := by rw [← hstk.1]; exact fl
  refine looks_onX (by rw [← hstk.1]; exact I.ok.frames) hstk.2 fl' b2 fun h3 held b3 up3 => ?_
  refine landsX held b3 fun h4 fl4 b4 up4 => ?_
  have J4 : Inv X (pins' ++ pins) σ1 H1 { s2 with heap := h4 } := J0.flownM os bare un hB fl4.1 there (up3.trans up4)
  have K4 : X.K.In h4 := J4.kIn
  obtain ⟨ob, hob, hobc⟩ := fl4.there
  have M4 : Inv (X.hand e []) [] σ1 H1 { s2 with heap := h4 } := ⟨I.ok.hand _ _, J4.os, J4.bare, J4.base, J4.loc, J4.cell, J4.free, J4.freeC, fun p hp => absurd (show p ∈ ([] : List (Addr × Obj)) from hp) (by simp), J4.hok, J4.len⟩
  refine wpAny_handleBy_cons (codeAny_handlers_test (ld_glob (X := X.hand e []) M4 hg hm (exc_match K4 hob hobc own ty base sub ?_) hd)) (by intro q; cases q)
  refine codeAny_handlers_suite_as (lands_againX fl4 b4 fun h6 fl6 b6 up6 => ?_)
  have J6 : Inv X (pins' ++ pins) σ1 H1 { s2 with heap := h6 } := J0.flownM os bare un hB fl6.1 there ((up3.trans up4).trans up6)
  obtain ⟨oe, vs, T, oT, ts', hoe, ⟨hoec, _⟩, hdat, _⟩ := id fl6.2.2.2
  have bo : Bare1 oe := by
    obtain ⟨oe2, vs2, q1, q2, q3⟩ := b6
    have q1 : h6.get? e = some oe2 := q1
    rw [hoe] at q1; cases q1
    exact ⟨vs2, q2, q3⟩
  have hne : H1 e = none := by
    cases q : H1 e with
    | none => rfl
    | some o =>
      obtain ⟨ob, z⟩ := objOk_there (hB e o q)
      rw [fl6.2.1] at z; cases z
  have hfr : e ∉ frs X.stack := fun hb => by
    rw [hstk.1] at hb
    obtain ⟨_, o, z, nf⟩ := fl6.2.2.1.mem hb
    have z : h6.get? e = some o := z
    rw [hoe] at z; cases z
    exact nf _ hdat
  have hL : e ≠ X.env.locals := fun z => hfr (by rw [hstk.1, z]; exact List.mem_filterMap.mpr ⟨X.env, List.mem_cons_self, hstk.2⟩)
  have hfs : e ∉ X.fs := fun z => hfr (by
    rw [hstk.1]
    obtain ⟨env, h1, h2⟩ := List.mem_filterMap.mp z
    exact List.mem_filterMap.mpr ⟨env, List.mem_cons_of_mem _ h1, h2⟩)
  have Mh : Inv (X.hand e ((e, oe) :: (X.pn ++ pins))) [] σ1 H1 { s2 with heap := h6 } := by
    refine ⟨I.ok.hand _ _, J6.os, J6.bare, J6.base, J6.loc, J6.cell, J6.free, J6.freeC, fun p hp => ?_, J6.hok, J6.len⟩
    have hp : p ∈ (e, oe) :: (X.pn ++ pins) := by simpa using hp
    rcases List.mem_cons.mp hp with rfl | hp
    · exact ⟨hoe, hne, hL, hfs, fun v z => by rw [hdat] at z; cases z⟩
    · refine J6.pin p ?_
      rcases List.mem_append.mp hp with z | z
      · exact List.mem_append_left _ z
      · exact List.mem_append_right _ (List.mem_append_right _ z)
  refine store_ok (X := X.hand e ((e, oe) :: (X.pn ++ pins))) Mh hN hi (.inl hl) (v := .ref e) rfl (fun s7 I7 => ?_) (.inr hl)
  have q7 := hE e hne J6.len
  refine wpAny_mono (hs e oe (X.pn ++ pins) hoec bo [] s7 _ H1 _ I7 q7) (fun f s8 q8 => ?_) (fun _ _ z => z.elim)
  cases f with
  | next => obtain ⟨_, _, _, z⟩ := q8; exact z.elim
  | brk => obtain ⟨_, _, _, z⟩ := q8; exact z.elim
  | cont => obtain ⟨_, _, _, z⟩ := q8; exact z.elim
  | ret u =>
    obtain ⟨v, σ8, H8, I8, r8, z8⟩ := q8
    have I8' : Inv X pins σ8 H8 s8 := ⟨I.ok, I8.os, I8.bare, I8.base, I8.loc, I8.cell, I8.free, I8.freeC, fun p hp => I8.pin p (List.mem_append_left _ (List.mem_cons_of_mem _ hp)), I8.hok, I8.len⟩
    obtain ⟨m8, hn8, _⟩ := id I8'.loc
    refine wpAny_nameGoes hlk hn8 (by rw [I.ok.kind]; rfl) fun h9 m9 hn9 hs9 => ?_
    exact ⟨v, _, H8, I8'.names hn9 hs9, r8, z8⟩
end
end L2

/-! While an exception is held, over trees. -/
namespace L3
open PySem L2 PySem.W
section
variable (X : Cx)
def PI3H (tg e : Expr) (u : UL) : Prop := ∃ t, PIH X tg e t ∧ RefI X.K t u
end
section
variable {X : Cx} {tg : Expr} {u : UE} {pos p : Pos}
theorem i_rngH {a : Expr} (ha : PE3 X a u) (hg : Gl X "range") (hm : X.mg "range" = none) (hs : starEach [a] X.env = [(false, eval a X.env)] := by rfl) : PI3H X tg (.Call (.Name "range" p) [a] [] pos) (uiR u) := by
  obtain ⟨_, h1, r1⟩ := ha
  refine ⟨_, pi_range1H hg hm (pa_cons h1 pa_nil (by exact hs)) hs, fun ρ k h R W B H σ Q e q => ?_⟩
  refine r1 ρ _ h R W B H σ _ e fun d v B1 H1 z1 e1 g1 s1 => ?_
  obtain ⟨j, rfl, j0, j1, z⟩ := z1
  exact ⟨j, by rw [s1.intV], j0, j1, q _ _ B1 H1 z e1 g1 (ItOk.rng _)⟩
end
section
variable {X : Cx} {tg iter elt : Expr} {w : UL} {u : UE} {pos : Pos} {ifs : List Expr} {scope : Scope} {cl : List (Str × Addr)} {ts fr : List Str} {js : List Nat} {ug : UG} {ut : UT}
theorem o_compGH (hi : PI3H X tg iter w) (hg : ∀ C s H ex, PG3 (compCx X (ts ++ fr) scope cl C s H ex) tg ug) (hts : ∀ C s H ex, PIfs3 (compCx X (ts ++ fr) scope cl C s H ex) ifs ut) (helt : ∀ C s H ex, PE3 (compCx X (ts ++ fr) scope cl C s H ex) elt u)
    (hc : HeldX X) (F : FreeOk X scope cl fr js) (hjn : js.Nodup := by decide) (hs : ∀ v, foldedSetIterable iter X.env v = pure v := by intro _; rfl) : PO3 X (.ListComp elt [⟨tg, iter, ifs, 0⟩] scope pos) (uCompG w ug ut u ts.length js) := by
  obtain ⟨_, h0, r0⟩ := hi
  obtain ⟨tg', hg', rg⟩ := joinG (K := X.K) (Xs := fun a : Addr × Shared × Hp × List Addr => compCx X (ts ++ fr) scope cl a.1 a.2.1 a.2.2.1 a.2.2.2) (fun _ => rfl) fun a => hg a.1 a.2.1 a.2.2.1 a.2.2.2
  obtain ⟨tt, ht', rt⟩ := joinI (K := X.K) (Xs := fun a : Addr × Shared × Hp × List Addr => compCx X (ts ++ fr) scope cl a.1 a.2.1 a.2.2.1 a.2.2.2) (fun _ => rfl) fun a => hts a.1 a.2.1 a.2.2.1 a.2.2.2
  obtain ⟨te, he', re⟩ := joinE (K := X.K) (Xs := fun a : Addr × Shared × Hp × List Addr => compCx X (ts ++ fr) scope cl a.1 a.2.1 a.2.2.1 a.2.2.2) (fun _ => rfl) fun a => helt a.1 a.2.1 a.2.2.1 a.2.2.2
  exact ⟨_, pe_compGH h0 (fun C s H ex => hg' (C, s, H, ex)) (fun C s H ex => ht' (C, s, H, ex)) (fun C s H ex => he' (C, s, H, ex)) F hc hs, refCompG r0 rg rt re hjn⟩
end
section
variable {X : Cx} {pos p px py : Pos}
/-- isinstance of the exception that is held -/
theorem e_isX (i : Nat) {x y : Str} {C c e : Addr} {oe : Obj} {b : Bool} (hp : (e, oe) ∈ X.pn) (hc : oe.cls = .ref C) (F1 : ExcCls X.K C) (hk : kitOne X.K (.ref C) (.ref c) = some b) (hm : X.mg x = some (.ref c)) (hg : Gl X x) (hgi : Gl X "isinstance") (hmi : X.mg "isinstance" = none)
    (hN : X.N[i]? = some y := by rfl) (hv : Vis X.env.scope y := by first | exact Or.inl rfl | exact Or.inr (Or.inl rfl) | exact Or.inr (Or.inr rfl)) (hd : (x == ("__debug__" : Str)) = false := by decide) (hdy : (y == ("__debug__" : Str)) = false := by decide) (hcd : (y == ("__classdict__" : Str)) = false := by decide)
    (he : starEach [.Name y py, .Name x px] X.env = (false, eval (.Name y py) X.env) :: starEach [.Name x px] X.env := by rfl) (hs : starEach [.Name x px] X.env = (false, eval (.Name x px) X.env) :: starEach [] X.env := by rfl) (hpl : (backTo pos (starEach [.Name x px] X.env)).any (·.1) = false := by rfl) :
    PE3 X (.Call (.Name "isinstance" p) [.Name y py, .Name x px] [] pos) (fun ρ k => ρ[i]? = some (.val (.kfn e)) ∧ k (.bl b)) := by
  refine ⟨_, pe_callB (call_isX1 rfl hp hc F1) hgi hmi (by decide +kernel) (pa_cons (pe_var hN hv hdy hcd) (pa_cons (pe_glob (v := .ref c) hg hm rfl hd) pa_nil hs) he) (by decide) (by decide) he hpl, fun ρ k h R W B H σ Q ev q => ?_⟩
  obtain ⟨h1, h2⟩ := h
  obtain ⟨v, e1, r⟩ := ev.val h1
  cases r
  exact ⟨_, e1, c, b, rfl, hk, q _ _ B H h2 ev (Grow.refl _ _) (.bl _)⟩
theorem e_isXB (i : Nat) {x y : Str} {T : String} {C e : Addr} {oe : Obj} {b : Bool} (hp : (e, oe) ∈ X.pn) (hc : oe.cls = .ref C) (F1 : ExcCls X.K C) (hk : kitOne X.K (.ref C) (.type T) = some b) (hm : X.mg x = none) (hbt : bootBuiltins x = some (.type T)) (hg : Gl X x) (hgi : Gl X "isinstance") (hmi : X.mg "isinstance" = none) (hnm : x ≠ "__name__" := by decide)
    (hN : X.N[i]? = some y := by rfl) (hv : Vis X.env.scope y := by first | exact Or.inl rfl | exact Or.inr (Or.inl rfl) | exact Or.inr (Or.inr rfl)) (hd : (x == ("__debug__" : Str)) = false := by decide) (hdy : (y == ("__debug__" : Str)) = false := by decide) (hcd : (y == ("__classdict__" : Str)) = false := by decide)
    (he : starEach [.Name y py, .Name x px] X.env = (false, eval (.Name y py) X.env) :: starEach [.Name x px] X.env := by rfl) (hs : starEach [.Name x px] X.env = (false, eval (.Name x px) X.env) :: starEach [] X.env := by rfl) (hpl : (backTo pos (starEach [.Name x px] X.env)).any (·.1) = false := by rfl) :
    PE3 X (.Call (.Name "isinstance" p) [.Name y py, .Name x px] [] pos) (fun ρ k => ρ[i]? = some (.val (.kfn e)) ∧ k (.bl b)) := by
  refine ⟨_, pe_callB (call_isXB rfl hp hc F1) hgi hmi (by decide +kernel) (pa_cons (pe_var hN hv hdy hcd) (pa_cons (pe_bltn (v := .ty T) (u := .type T) hg hm hbt rfl hnm hd) pa_nil hs) he) (by decide) (by decide) he hpl, fun ρ k h R W B H σ Q ev q => ?_⟩
  obtain ⟨h1, h2⟩ := h
  obtain ⟨v, e1, r⟩ := ev.val h1
  cases r
  exact ⟨_, e1, T, b, rfl, hk, q _ _ B H h2 ev (Grow.refl _ _) (.bl _)⟩
end
/-- a def that is handed the exception that is held, and a number, and tells True -/
def spAlone (C : Addr) (n : Int) : Addr → Obj → Sp := fun e oe vs H Q _ => oe.cls = .ref C ∧ vs = [.ref e, .int n] ∧ ∀ H', Same H H' → Q (.bl true) H'
theorem def3H {P : Program} {w : World} {K : PySem.W.Frag} {mg : Str → Option Value} {base : Heap} {x : Str} {st : Stmt} {N ps : List Str} {lv : Nat} {C : Addr} {n : Int} (Fd : Fnd K mg x st ps) (S : FnScope N ps (defScope st)) (hn : ps.length = 2)
    (hbody : ∀ (f : Addr) (cdv : Value) (e : Addr) (oe : Obj) (A : Around) (outer : List PySem.Env) (s : Shared) (H : Hp) (E : XK), HeldIn A outer s H e oe → oe.cls = .ref C → RoomH lv (A.deeper (PyProof.Rows.envOfC x (defScope st) s.heap.objs.size f cdv)) →
      ∃ u, PSs3 (cxOfH CX0 P w K mg base N x (defScope st) f cdv A outer s H E e oe).nox (defBody st) u ∧ u { nx := fun _ => False, rt := fun r => r = .val (.bl true) } ([.val (.kfn e), .val (.int n)] ++ List.replicate (N.length - 2) .no)) : CalH P w K mg base x ps (lv + 1) (spAlone C n) := by
  refine Fd.okH S (fun e oe vs H Q E h => by rw [h.2.1, hn]; rfl) (fun f cdv e oe A outer s H vs Q E hi hr h => ?_)
  obtain ⟨hc, rfl, q⟩ := h
  obtain ⟨u, ⟨t, ht, rt⟩, hu⟩ := hbody f cdv e oe A outer s H E hi hc hr
  have ev := Ev.start (K := K) (N := N) (vs := [.ref e, .int n]) (as := [.val (.kfn e), .val (.int n)]) (W := W0) (B := H) (H := H) (show (0 : Nat) ≤ 1 by decide) (Same.refl _) (fun a z => z.elim) (.val (.kfn e) (.val (.int n) .nil))
  refine ⟨t, ht, rt _ _ hu H W0 H H (L2.start N _) _ ev ⟨fun _ _ _ _ h => h.elim, fun _ _ _ _ h => h.elim, fun _ _ _ _ h => h.elim, fun r v B' H' h e' g z => ?_⟩⟩
  subst h
  have z : Rep K B' v (.bl true) := z
  cases z
  exact q H' fun a o h1 => e'.fr a o h1 fun y => y
section
variable {X : Cx} {pos : Pos}
/-- a try whose body does not raise, its handler with a name -/
theorem s_tryOkN {C D0 : Addr} {x n : Str} {np hp : Pos} {body suite : List Stmt} {b0 : Stmt} {u : US} {ie : Nat} (own : (clsIn X.K D0).isSome = true) (ty : typeIn X.K (.ref D0) = some (.type "type")) (base : subIn X.K (.ref D0) (.type "BaseException") = some true) (sub : subIn X.K (.ref C) (.ref D0) = some true)
    (hstk : X.stack = X.env :: X.outer ∧ X.env.frame = some X.env.locals) (hg : Gl X x) (hm : X.mg x = some (.ref D0)) (hN : X.N.Nodup) (hi : X.N[ie]? = some n) (hl : X.env.scope.names.lookup n = some .local) (hb : ∀ pn xe, PSs3 (X.pinw pn xe) body u) (hd : (x == ("__debug__" : Str)) = false := by decide) :
    PS3 X (.Try body [.ExceptHandler (some (.Name x np)) (some n) (b0 :: suite) hp] [] [] pos) u := by
  refine ⟨_, ps_tryH (C := C) (tb := fun _ D σ H => ∀ (pn : List (Addr × Obj)) (xe : Value → Shared → Prop), ∃ t, PSs (X.pinw pn xe) body t ∧ RefS X.K t u ∧ t D σ H) (ts := fun _ => tNever) own ty base sub hstk hg hm hN hi hl (fun pn xe EK hx pins s σ H D I h => ?_) (fun e oe pn _ _ => pss_neverX) hd, fun U ρ h R W B H σ D e s pn xe => ?_⟩
  · obtain ⟨t, p, _, q⟩ := h pn xe
    exact p pins s σ H D I q
  · obtain ⟨t, p, r⟩ := hb pn xe
    exact ⟨t, p, r, r U ρ h R W B H σ D e s⟩
/-- the suite: None in slot jd, the exception in slot ie; it hands True back -/
def tsA (jd ie : Nat) (e : Addr) : TS := fun D σ H => σ[jd]? = some (some .non) ∧ σ[ie]? = some (some (.ref e)) ∧ ∀ H', Same H H' → D.rt (.bl true) H'
/-- a try whose body's one call raises; the handler's suite tells True where slot jd holds None -/
theorem s_tryA {C D0 : Addr} {x xc n y : Str} {np hp p cp ap py : Pos} {ps : List Str} {j lv ie jd i : Nat} {pr : List V → Hp → Prop} {e : Expr} {es : List Expr} {suite : List Stmt} {b0 : Stmt} {ul : UL} {G : List D → Prop}
    (own : (clsIn X.K D0).isSome = true) (ty : typeIn X.K (.ref D0) = some (.type "type")) (base : subIn X.K (.ref D0) (.type "BaseException") = some true) (sub : subIn X.K (.ref C) (.ref D0) = some true)
    (hstk : X.stack = X.env :: X.outer ∧ X.env.frame = some X.env.locals) (hg : Gl X xc) (hm : X.mg xc = some (.ref D0)) (hN : X.N.Nodup) (hi : X.N[ie]? = some n) (hl : X.env.scope.names.lookup n = some .local) (hne : ie ≠ jd) (hy : X.N[i]? = some y) (hly : Loc X.env.scope y)
    (c : CalM X.prog X.w X.K X.mg X.base x ps j C pr) (hr : Room lv X.A) (hgx : Gl X x) (ha : ∀ pn xe, PL3 (X.pinw pn xe) (e :: es) ul) (prOk : ∀ ds B H vs, G ds → Same B H → Reps X.K B vs ds → pr vs H)
    (hs : ∀ (e : Addr) (oe : Obj) pn, oe.cls = .ref C → Bare1 oe → PSs (X.hand e ((e, oe) :: pn)) (b0 :: suite) (tsA jd ie e))
    (hjk : j ≤ lv := by decide) (hdb : (x == ("__debug__" : Str)) = false := by decide) (hd : (xc == ("__debug__" : Str)) = false := by decide)
    (hf : X.fn y = true ∨ X.env.scope.names.lookup y = some .local := by first | exact .inl rfl | exact .inr rfl)
    (hsw : swapsWith (.Call (.Name x p) (e :: es) [] cp) (some (.Name y py)) ap.line X.env = pure false := by rfl)
    (he : starEach (e :: es) X.env = (false, eval e X.env) :: starEach es X.env := by rfl) (hpl : (backTo cp (starEach es X.env)).any (·.1) = false := by rfl) :
    PS3 X (.Try [.Assign [.Name y py] (.Call (.Name x p) (e :: es) [] cp) ap] [.ExceptHandler (some (.Name xc np)) (some n) (b0 :: suite) hp] [] [] pos) (fun U ρ => ul ρ fun ds => G ds ∧ ρ[jd]? = some (.val .non) ∧ U.rt (.val (.bl true))) := by
  refine ⟨_, ps_tryHS (C := C) (tb := fun EK D σ H => (∀ (pn : List (Addr × Obj)) (xe : Value → Shared → Prop), ∃ t, PA (X.pinw pn xe) (e :: es) t ∧ RefL X.K t ul ∧ t σ H fun vs H1 => pr vs H1 ∧ ∀ H2, Same H1 H2 → EK σ (.ref C) none H2)) (ts := tsA jd ie) own ty base sub hstk hg hm hN hi hl
    (fun pn xe EK hx pins s σ H D I h => ?_) hs hd, fun U ρ h R W B H σ D e s pn xe => ?_⟩
  · obtain ⟨t, p, _, q⟩ := h pn xe
    exact pss_one (ps_set (X := X.pinw pn xe) hN hy hly (pe_calMS (X := X.pinw pn xe) c hr hx hgx p hjk hdb he hpl) hsw hf) pins s σ H D I q
  · obtain ⟨t, p, r⟩ := ha pn xe
    refine ⟨t, p, r, r ρ _ h R W B H σ _ e fun ds vs B1 H1 z e1 g1 rs => ?_⟩
    obtain ⟨hG, hj, hk⟩ := z
    refine ⟨prOk ds B1 H1 vs hG e1.bh rs, fun H2 s2 => ⟨rfl, fun ea hea hlen => ?_⟩⟩
    obtain ⟨v, q1, q2⟩ := e1.val hj
    cases q2
    refine ⟨?_, ?_, fun H3 s3 => ?_⟩
    · rw [List.getElem?_set_ne hne]; exact q1
    · rw [List.getElem?_set_self (by rw [hlen]; exact (List.getElem?_eq_some_iff.mp hi).1)]
    · refine s.rt _ _ B1 H3 hk ⟨fun a o q nw => s3 a o (s2 a o (e1.fr a o q nw)), (e1.bh.trans s2).trans s3, e1.wb, fun a w => ?_, e1.wr⟩ g1 (.bl _)
      obtain ⟨x, y, q1, q2⟩ := e1.wh a w
      exact ⟨x, y, s3 a _ (s2 a _ q1), q2⟩
theorem PSs.imp {X : Cx} {st : List Stmt} {t t' : TS} (h : PSs X st t) (i : ∀ D σ H, t' D σ H → t D σ H) : PSs X st t' := fun pins s σ H D I q => h pins s σ H D I (i D σ H q)
/-- return x is None and f(e, n) within the suite -/
theorem suite_alone {e : Addr} {oe : Obj} {pn : List (Addr × Obj)} {C : Addr} {xa xd xe : Str} {ps : List Str} {j lv jd ie jn ji : Nat} {n : Int} {rp bp cp pd p1 pa pe p3 pc : Pos} (hr : Room lv X.A) (c : CalH X.prog X.w X.K X.mg X.base xa ps j (spAlone C n)) (hc : oe.cls = .ref C) (b1 : Bare1 oe)
    (hg : Gl X xa) (hNd : X.N[jd]? = some xd) (hNe : X.N[ie]? = some xe) (hvd : Vis X.env.scope xd) (hve : Vis X.env.scope xe) (hjk : j ≤ lv) (hdb : (xa == ("__debug__" : Str)) = false) (d1 : (xd == ("__debug__" : Str)) = false) (d2 : (xd == ("__classdict__" : Str)) = false) (d3 : (xe == ("__debug__" : Str)) = false) (d4 : (xe == ("__classdict__" : Str)) = false) :
    PSs (X.hand e ((e, oe) :: pn)) [.Return (some (.BoolOp .And [.Compare (.Name xd pd) [.Is] [.Constant .none jn p1] cp, .Call (.Name xa pa) [.Name xe pe, .Constant (.int n) ji p3] [] pc] bp)) rp] (tsA jd ie e) := by
  refine PSs.imp (pss_one (ps_ret (pe_and (pe_cmpR op_isN (pe_var (X := X.hand e ((e, oe) :: pn)) hNd hvd d1 d2) pe_non (by rfl)) (pe_one (pe_calH (X := X.hand e ((e, oe) :: pn)) (k := lv) (oe := oe) c ⟨hr.dp, hr.un⟩ rfl b1 List.mem_cons_self hg (pa_cons (pe_var hNe hve d3 d4) (pa_cons pe_int pa_nil)) hjk hdb))))) fun D σ H h => ?_
  obtain ⟨h1, h2, h3⟩ := h
  refine ⟨_, h1, rfl, _, rfl, ?_⟩
  rw [decide_eq_true rfl]
  exact iteT ⟨_, h2, hc, rfl, h3⟩
end
end L3

/-! Texts split, sliced, written; None among tuples. -/
namespace L3
open PySem L2 PyProof.Rows
/-- pieces joined by a sign -/
def jn (c : Nat) : List (List Nat) → List Nat
  | [] => []
  | [a] => a
  | a :: b :: r => a ++ c :: jn c (b :: r)
theorem jn_cons (c : Nat) (a : List Nat) {r : List (List Nat)} (h : r ≠ []) : jn c (a :: r) = a ++ c :: jn c r := by
  cases r with
  | nil => exact absurd rfl h
  | cons b r => rfl
theorem cut_uniq {c : Nat} : ∀ {a b r s : List Nat}, c ∉ a → c ∉ b → a ++ c :: r = b ++ c :: s → a = b ∧ r = s
  | [], [], r, s, _, _, e => ⟨rfl, (List.cons.inj e).2⟩
  | [], y :: b, r, s, _, hb, e => absurd (by rw [(List.cons.inj e).1]; exact List.mem_cons_self) hb
  | x :: a, [], r, s, ha, _, e => absurd (by rw [← (List.cons.inj e).1]; exact List.mem_cons_self) ha
  | x :: a, y :: b, r, s, ha, hb, e => by
    obtain ⟨e1, e2⟩ := List.cons.inj e
    obtain ⟨h1, h2⟩ := cut_uniq (fun z => ha (List.mem_cons_of_mem _ z)) (fun z => hb (List.mem_cons_of_mem _ z)) e2
    exact ⟨by rw [e1, h1], h2⟩
theorem jn_uniq {c : Nat} : ∀ {ps qs : List (List Nat)}, ps ≠ [] → qs ≠ [] → (∀ p ∈ ps, c ∉ p) → (∀ q ∈ qs, c ∉ q) → jn c ps = jn c qs → ps = qs
  | [], _, h, _, _, _, _ => absurd rfl h
  | _, [], _, h, _, _, _ => absurd rfl h
  | [a], [b], _, _, _, _, e => by rw [show a = b from e]
  | [a], b :: d :: s, _, _, ha, _, e => by
    have e : a = b ++ c :: jn c (d :: s) := e
    exact absurd (by rw [e]; simp) (ha a List.mem_cons_self)
  | a :: d :: r, [b], _, _, _, hb, e => by
    have e : a ++ c :: jn c (d :: r) = b := e
    exact absurd (by rw [← e]; simp) (hb b List.mem_cons_self)
  | a :: x :: r, b :: y :: s, _, _, ha, hb, e => by
    have e : a ++ c :: jn c (x :: r) = b ++ c :: jn c (y :: s) := e
    obtain ⟨h1, h2⟩ := cut_uniq (ha a List.mem_cons_self) (hb b List.mem_cons_self) e
    rw [h1, jn_uniq (by simp) (by simp) (fun p m => ha p (List.mem_cons_of_mem _ m)) (fun p m => hb p (List.mem_cons_of_mem _ m)) h2]
theorem Str_eta (x : Str) : S x.cps.toList = x := by cases x; rfl
theorem map_S (xs : List Str) : (xs.map fun x => x.cps.toList).map S = xs := by
  rw [List.map_map]
  have : (S ∘ fun x : Str => x.cps.toList) = id := funext fun x => Str_eta x
  rw [this, List.map_id]
theorem split_ne (x y : Str) : Txt.split x y ≠ [] := by
  unfold Txt.split
  split
  · simp
  · split
    · simp
    · unfold Builtin.Str.partsBetween
      intro h
      have h := congrArg List.length h
      simp at h
theorem join_S (c : Nat) : ∀ ps : List (List Nat), (S [c]).join (ps.map S) = S (jn c ps)
  | [] => rfl
  | [a] => rfl
  | a :: b :: r => by
    show S a ++ S [c] ++ (S [c]).join ((b :: r).map S) = S (a ++ c :: jn c (b :: r))
    rw [join_S c (b :: r), S_app, S_app]
    simp
theorem split_S (l : List Nat) (c : Nat) : ∃ ps : List (List Nat), Txt.split (S l) (S [c]) = ps.map S ∧ ps ≠ [] ∧ (∀ p ∈ ps, c ∉ p) ∧ l = jn c ps := by
  refine ⟨(Txt.split (S l) (S [c])).map fun x => x.cps.toList, (map_S _).symm, by simpa using split_ne _ _, fun p hp => ?_, ?_⟩
  · obtain ⟨x, hx, rfl⟩ := List.mem_map.mp hp
    exact StrLaws.split_free (S l) c x hx
  · have h := StrLaws.join_split (S l) (S [c])
    rw [← map_S (Txt.split (S l) (S [c])), join_S] at h
    exact (S_inj h).symm
theorem slice_ab (l : List Nat) (lo hi : Option Int) {a b : Nat} (h1 : a ≤ b) (h2 : b ≤ l.length) (e : Builtin.Str.strSliceIndices lo hi 1 l.length = Builtin.Str.strSliceIndices (some (a : Int)) (some (b : Int)) 1 l.length) : Txt.slice (S l) lo hi = S ((l.drop a).take (b - a)) := by
  unfold Txt.slice
  rw [S_len, e]
  have p := StrLaws.sliced_plain (S l) h1 (show b ≤ (S l).length from h2)
  have q := StrLaws.strSliceIndices_plain h1 h2
  split
  · rename_i z
    rw [q] at z
    have z : b - a = l.length := by simpa using z
    have ha : a = 0 := by omega
    have hb : b = l.length := by omega
    subst ha; subst hb
    simp
  · show (⟨_⟩ : Str) = ⟨_⟩
    congr 2
theorem slice_to (l : List Nat) (n : Nat) : Txt.slice (S l) none (some (n : Int)) = S (l.take n) := by
  rw [slice_ab l none (some (n : Int)) (a := 0) (b := min n l.length) (Nat.zero_le _) (Nat.min_le_right _ _)]
  · rw [List.drop_zero, Nat.sub_zero]
    congr 1
    rw [List.take_eq_take_iff]; omega
  · unfold Builtin.Str.strSliceIndices
    dsimp only
    congr 1 <;> · simp; try omega
theorem slice_from (l : List Nat) (n : Nat) : Txt.slice (S l) (some (n : Int)) none = S (l.drop n) := by
  rw [slice_ab l (some (n : Int)) none (a := min n l.length) (b := l.length) (Nat.min_le_right _ _) (Nat.le_refl _)]
  · congr 1
    rw [List.take_of_length_le (by simp)]
    rcases Nat.le_total n l.length with z | z
    · rw [Nat.min_eq_left z]
    · rw [Nat.min_eq_right z, List.drop_eq_nil_of_le z, List.drop_length]
  · unfold Builtin.Str.strSliceIndices
    dsimp only
    congr 1 <;> first | omega | (simp; done) | (simp; omega)
theorem str_all (n : Int) : Str.ofString (toString n) = S (wl n) := by
  rcases Int.lt_or_le n 0 with h | h
  · obtain ⟨m, rfl⟩ : ∃ m : Nat, n = Int.negSucc m := by
      cases n with
      | ofNat k => exact absurd h (by simp)
      | negSucc m => exact ⟨m, rfl⟩
    have e : toString (Int.negSucc m) = "-" ++ toString ((m + 1 : Nat) : Int) := rfl
    refine S_of ?_
    unfold wl
    rw [if_pos h, e, PySem.Str.ofString_eq_toList]
    have z := PySem.W.KIN.signs_num (m + 1)
    rw [PySem.Str.ofString_eq_toList] at z
    show List.map Char.toNat ("-" ++ toString ((m + 1 : Nat) : Int)).toList = 45 :: fg (m + 1)
    rw [String.toList_append, List.map_append]
    exact congrArg (fun r => 45 :: r) z
  · rw [str_num n h]
    unfold wl
    rw [if_neg (by omega)]
end L3

/-! None in a list of tuples and Nones; a sign so many times. -/
namespace L3
open PySem L2 PyProof.Rows
section
variable {X : Cx} {a b : Expr} {ua ub : UE} {pos : Pos}
theorem op_mul_one : OpR X (binaryOp .Mult) (fun x y H Q => x = .str (S [49]) ∧ y = .int 31 ∧ Q (.str (S (List.replicate 31 49))) H) := by
  intro pins s σ H x y v u Q I rx ry h
  obtain ⟨rfl, rfl, q⟩ := h
  obtain ⟨t, rfl⟩ := rx
  obtain ⟨t', rfl⟩ := ry
  refine P.mul_str (by decide) (fun _ _ => by decide) (fun _ _ => by decide) ?_
  rw [if_neg (by decide), if_neg (by decide)]
  exact ⟨by decide, .str (S (List.replicate 31 49)), H, I.tok _, ⟨_, rfl⟩, q⟩
/-- "1" * 31 -/
def uMulS (ua ub : UE) : UE := fun ρ k => ua ρ fun x => ub ρ fun y => x = .str (S [49]) ∧ y = .int 31 ∧ k (.str (S (List.replicate 31 49)))
theorem e_mulS (ha : PE3 X a ua) (hb : PE3 X b ub) : PE3 X (.BinOp a .Mult b pos) (uMulS ua ub) := by
  obtain ⟨_, h1, r1⟩ := ha; obtain ⟨_, h2, r2⟩ := hb
  refine ⟨_, pe_op op_mul_one h1 h2, ref2 r1 r2 fun x y k h R W B H σ ρ v w' Q e rx ry q => ?_⟩
  obtain ⟨rfl, rfl, hk⟩ := h
  exact ⟨rx.strV, ry.intV, q _ _ B H hk e (Grow.refl _ _) (.str _)⟩
def TN (d : D) : Prop := d = .non ∨ ∃ xs, d = .tup xs
noncomputable def inN (u : Value) : Bool := @decide (u = .none) (Classical.propDecidable _)
theorem inN_iff {u : Value} : inN u = true ↔ u = .none := by unfold inN; exact @decide_eq_true_iff _ (Classical.propDecidable _)
theorem op_inN (hu : X.A.units + 64 < cLine) : OpR X (compareOp .In) (fun x y H Q => x = .non ∧ ∃ B es, Rep X.K B y (.lst es) ∧ Same B H ∧ (∀ e ∈ es, TN e) ∧ ∀ b : Bool, (b = true ↔ D.non ∈ es) → Q (.bl b) H) := by
  intro pins s σ H x y v u Q I rx ry h
  obtain ⟨rfl, B, es, r2, sB, h2, q⟩ := h
  cases (show v = Value.none from rx)
  obtain ⟨a, vs, rfl, ha, rs⟩ := r2.lstV
  cases ry
  obtain ⟨its, k1, p1, _⟩ := I.list (SqL.of (sB _ _ ha))
  refine SeqAt.in_listAt inN p1.isList (fun y hy => ?_) ⟨.bl _, H, I, rfl, q _ ?_⟩
  · obtain ⟨j, hj⟩ := List.getElem?_of_mem (show y ∈ its by simpa using hy)
    obtain ⟨w, ew, lw⟩ := k1.getR hj
    obtain ⟨e, ee, re⟩ := rs.getV ew
    rcases h2 e (List.mem_of_getElem? ee) with rfl | ⟨xs, rfl⟩
    · cases re
      cases (show y = Value.none from lw)
      rw [inN_iff.mpr rfl]
      exact SeqAt.EqAt.same _
    · obtain ⟨c, ws, rfl, hc, _⟩ := re.tupV
      cases (show y = Value.ref c from lw)
      obtain ⟨its2, _, p2, _⟩ := I.tuple (SqT.of (sB _ _ hc))
      have : inN (Value.ref c) = false := by
        cases q : inN (Value.ref c) with
        | false => rfl
        | true => cases inN_iff.mp q
      rw [this]
      exact SeqAt.EqAt.tuple_none (A := X.A.in1) p2 (by show X.A.units + 1 < cLine; omega)
  · rw [show its.toArray.any inN = its.any inN by simp, List.any_eq_true]
    constructor
    · rintro ⟨u, hu, z⟩
      cases inN_iff.mp z
      obtain ⟨j, hj⟩ := List.getElem?_of_mem hu
      obtain ⟨w, ew, lw⟩ := k1.getR hj
      obtain ⟨e, ee, re⟩ := rs.getV ew
      have me := List.mem_of_getElem? ee
      rcases h2 e me with rfl | ⟨xs, rfl⟩
      · exact me
      · obtain ⟨c, ws, rfl, hc, _⟩ := re.tupV
        cases (show Value.none = Value.ref c from lw)
    · intro m
      obtain ⟨j, hj⟩ := List.getElem?_of_mem m
      obtain ⟨v, ev, rv⟩ := rs.get hj
      obtain ⟨u, eu, lu⟩ := k1.get ev
      cases rv
      exact ⟨u, List.mem_of_getElem? eu, inN_iff.mpr lu⟩
def uInN (ua ub : UE) : UE := fun ρ k => ua ρ fun x => ub ρ fun y => x = .non ∧ ∃ es, y = .lst es ∧ (∀ e ∈ es, TN e) ∧ ∀ b : Bool, (b = true ↔ D.non ∈ es) → k (.bl b)
theorem t_inN (hu : X.A.units + 64 < cLine) (ha : PE3 X a ua) (hb : PE3 X b ub) (hm : behindInMarks .In b = false) : PT3 X (.Compare a [.In] [b] pos) (uB (uInN ua ub)) := by
  obtain ⟨_, h1, r1⟩ := ha; obtain ⟨_, h2, r2⟩ := hb
  refine ⟨_, pt_cmpR (op_inN hu) h1 h2 hm, refB (ref2 r1 r2 fun x y k h R W B H σ ρ v w' Q e rx ry q => ?_)⟩
  obtain ⟨rfl, es, rfl, h2, hk⟩ := h
  exact ⟨by cases rx; rfl, B, es, ry, e.bh, h2, fun b hb => q _ _ B H (hk b hb) e (Grow.refl _ _) (.bl _)⟩
end
end L3

/-! Ratios as written: their pieces. -/
namespace L3
open PySem L2 PyProof.Rows Cut
theorem eqS (a b : List Nat) : eqD (D.str (S a)) (D.str (S b)) = decide (a = b) := eqD_of (by
  rw [decide_eq_true_iff]
  exact ⟨fun e => by rw [e], fun e => S_inj (D.str.inj e)⟩)
theorem fg_inj {m n : Nat} (hm : m < 1000000000000000000000000000000) (hn : n < 1000000000000000000000000000000) (e : fg m = fg n) : m = n := by
  have a := fg_reads hm
  rw [e, fg_reads hn] at a
  have := Option.some.inj a
  omega
/-- the pieces between strokes of a ratio without a sign -/
def pa (n : Nat) (y : Int) : List (List Nat) := if y = 1 then [fg n] else [fg n, fg y.natAbs]
theorem pa_ne (n : Nat) (y : Int) : pa n y ≠ [] := by unfold pa; split <;> simp
theorem pa_free (n : Nat) (y : Int) : ∀ p ∈ pa n y, 47 ∉ p := by
  unfold pa
  split
  · intro p hp; simp at hp; subst hp; exact fg_free (by decide)
  · intro p hp; simp at hp; rcases hp with rfl | rfl <;> exact fg_free (by decide)
theorem pa_jn {n : Nat} {y : Int} (h : 0 < y) : rl (n : Int) y = jn 47 (pa n y) := by
  unfold rl pa
  rw [wl_pos (by omega)]
  split
  · rfl
  · rw [wl_pos (by omega)]; rfl
theorem pa_len (n : Nat) (y : Int) : (pa n y).length ≤ 2 := by unfold pa; split <;> simp
theorem pa_whole {n : Nat} {y : Int} (h1 : n < 1000000000000000000000000000000) (h2 : y.natAbs < 1000000000000000000000000000000) : ∀ p ∈ pa n y, isW p = true := by
  unfold pa
  split
  · intro p hp; simp at hp; subst hp; exact isW_of h1
  · intro p hp; simp at hp; rcases hp with rfl | rfl
    · exact isW_of h1
    · exact isW_of h2
/-- the text behind a sign that may stand ahead -/
def Bare (l m : List Nat) : Prop := (m = l ∧ l.take 1 ≠ [45]) ∨ l = 45 :: m
theorem take1 {l : List Nat} : l.take 1 = [45] ↔ ∃ m, l = 45 :: m := by
  cases l with
  | nil => simp
  | cons a r => simp
theorem bare_of {l m : List Nat} {x y : Int} (h : Bare l m) (e : l = rl x y) : m = rl (x.natAbs : Int) y ∧ (m = l ↔ 0 ≤ x) := by
  rcases h with ⟨rfl, h⟩ | h
  · have hx : 0 ≤ x := by
      rcases Int.lt_or_le x 0 with z | z
      · rw [rl_neg z] at e
        exact absurd (take1.mpr ⟨_, e⟩) h
      · exact z
    rw [Int.natAbs_of_nonneg hx]
    exact ⟨e, fun _ => hx, fun _ => rfl⟩
  · have hx : x < 0 := by
      rcases Int.lt_or_le x 0 with z | z
      · exact z
      · have := rl_head (y := y) z
        rw [← e, h] at this
        exact absurd rfl this
    rw [rl_neg hx, h] at e
    have e := (List.cons.inj e).2
    have z : (x.natAbs : Int) = -x := by omega
    rw [z]
    refine ⟨e, fun q => ?_, fun q => absurd q (by omega)⟩
    rw [h] at q
    exact absurd (congrArg List.length q) (by simp)
theorem pa_of {l m : List Nat} {x y : Int} {ps : List (List Nat)} (h : Bare l m) (lo : Low x y) (e : l = rl x y) (h1 : ps ≠ []) (h2 : ∀ p ∈ ps, 47 ∉ p) (h3 : m = jn 47 ps) : ps = pa x.natAbs y :=
  jn_uniq h1 (pa_ne _ _) h2 (pa_free _ _) (by rw [← h3, ← pa_jn lo.1]; exact (bare_of h e).1)
/-- "-0" stands ahead of no ratio -/
theorem no_dash0 {l : List Nat} {x y : Int} (e : l = rl x y) : l.take 2 ≠ [45, 48] := fun q => by
  have e0 : l[0]? = some 45 := by
    have := congrArg (fun r : List Nat => r[0]?) q
    rw [List.getElem?_take_of_lt (by decide)] at this
    exact this
  have e1 : l[1]? = some 48 := by
    have := congrArg (fun r : List Nat => r[1]?) q
    rw [List.getElem?_take_of_lt (by decide)] at this
    exact this
  rcases Int.lt_or_le x 0 with z | z
  · rw [e, rl_neg z] at e1
    have e1 : (rl (-x) y)[0]? = some 48 := by simpa using e1
    have n0 : (-x).natAbs ≠ 0 := by omega
    apply fg_lead _ n0
    rw [← wl_pos (n := -x) (by omega)]
    unfold rl at e1
    split at e1
    · exact e1
    · rw [List.getElem?_append_left] at e1
      · exact e1
      · rw [wl_pos (by omega)]; exact fg_ge _
  · rw [e] at e0
    exact rl_head z e0
theorem nums {ps : List (List Nat)} (h : ∀ p ∈ ps, isW p = true) : ∃ ns : List Nat, ps = ns.map fg ∧ ∀ n ∈ ns, n < 1000000000000000000000000000000 := by
  induction ps with
  | nil => exact ⟨[], rfl, fun _ z => nomatch z⟩
  | cons p ps ih =>
    obtain ⟨m, hm, rfl⟩ := isW_fg (h p List.mem_cons_self)
    obtain ⟨ns, rfl, hn⟩ := ih fun q hq => h q (List.mem_cons_of_mem _ hq)
    exact ⟨m :: ns, rfl, fun n hn' => by
      rcases List.mem_cons.mp hn' with rfl | z
      · exact hm
      · exact hn _ z⟩
theorem jn_mem {c s : Nat} : ∀ {ps : List (List Nat)} {p : List Nat}, p ∈ ps → c ∈ p → c ∈ jn s ps
  | [a], p, hp, hc => by
    have : p = a := by simpa using hp
    subst this; exact hc
  | a :: b :: r, p, hp, hc => by
    rw [jn_cons s a (by simp)]
    rcases List.mem_cons.mp hp with rfl | hp
    · exact List.mem_append_left _ hc
    · exact List.mem_append_right _ (List.mem_cons_of_mem _ (jn_mem hp hc))
theorem jn_len {s : Nat} : ∀ {ps : List (List Nat)} {p : List Nat}, p ∈ ps → p.length ≤ (jn s ps).length
  | [a], p, hp => by
    have : p = a := by simpa using hp
    subst this; exact Nat.le_refl _
  | a :: b :: r, p, hp => by
    rw [jn_cons s a (by simp), List.length_append, List.length_cons]
    rcases List.mem_cons.mp hp with rfl | hp
    · omega
    · have := jn_len (s := s) hp; omega
theorem jn_many {s : Nat} : ∀ {ps : List (List Nat)}, ps.length ≤ (jn s ps).length + 1
  | [] => by simp
  | [a] => by simp
  | a :: b :: r => by
    rw [jn_cons s a (by simp)]
    have := jn_many (s := s) (ps := b :: r)
    simp only [List.length_append, List.length_cons] at this ⊢
    omega
theorem bare_rl {x y : Int} : ∃ m, Bare (rl x y) m ∧ m = rl (x.natAbs : Int) y ∧ (m = rl x y ↔ 0 ≤ x) := by
  rcases Int.lt_or_le x 0 with z | z
  · have h : Bare (rl x y) (rl (-x) y) := .inr (rl_neg z)
    exact ⟨_, h, bare_of h rfl⟩
  · have h : Bare (rl x y) (rl x y) := .inl ⟨rfl, fun q => by
      obtain ⟨m, e⟩ := take1.mp q
      have := rl_head (y := y) z
      rw [e] at this
      exact this rfl⟩
    exact ⟨_, h, bare_of h rfl⟩
theorem rl_inj {x y u v : Int} (l1 : Low x y) (l2 : Low u v) (hx : x.natAbs < 1000000000000000000000000000000) (hy : y.natAbs < 1000000000000000000000000000000) (hu : u.natAbs < 1000000000000000000000000000000) (hv : v.natAbs < 1000000000000000000000000000000) (e : rl x y = rl u v) : x = u ∧ y = v := by
  obtain ⟨m, h1, h2, h3⟩ := @bare_rl x y
  have h4 := bare_of h1 e
  have hp := pa_of h1 l2 e (pa_ne _ _) (pa_free x.natAbs y) (by rw [h2, pa_jn l1.1])
  have hs : 0 ≤ x ↔ 0 ≤ u := h3.symm.trans h4.2
  have y0 := l1.1
  have v0 := l2.1
  unfold pa at hp
  by_cases a : y = 1
  · rw [if_pos a] at hp
    by_cases b : v = 1
    · rw [if_pos b] at hp
      have := fg_inj hx hu (List.cons.inj hp).1
      omega
    · rw [if_neg b] at hp; exact absurd (congrArg List.length hp) (by simp)
  · rw [if_neg a] at hp
    by_cases b : v = 1
    · rw [if_pos b] at hp; exact absurd (congrArg List.length hp) (by simp)
    · rw [if_neg b] at hp
      have q1 := fg_inj hx hu (List.cons.inj hp).1
      have q2 := fg_inj hy hv (List.cons.inj (List.cons.inj hp).2).1
      omega
theorem fin_rl {l m : List Nat} {n : Nat} {y : Int} (hb : Bare l m) (hm : m = rl (n : Int) y) (y0 : 0 < y) (g : Int.gcd (n : Int) y = 1) (hd : l.take 2 ≠ [45, 48]) : l = rl (if m = l then (n : Int) else -n) y ∧ Low (if m = l then (n : Int) else -n) y := by
  have lo : Low (if m = l then (n : Int) else -n) y := ⟨y0, by
    split
    · exact g
    · rw [Int.neg_gcd]; exact g⟩
  refine ⟨?_, lo⟩
  by_cases h : m = l
  · rw [if_pos h, ← h]; exact hm
  · rw [if_neg h]
    rcases hb with ⟨z, _⟩ | z
    · exact absurd z h
    · have n0 : n ≠ 0 := fun q => by
        subst q
        have y1 : y = 1 := by
          have : Int.gcd 0 y = y.natAbs := Int.gcd_zero_left _
          rw [show ((0 : Nat) : Int) = 0 from rfl] at g
          omega
        subst y1
        apply hd
        rw [z, hm]
        rfl
      rw [rl_neg (by omega), Int.neg_neg, z, hm]
theorem ixN_zero {n : Nat} : ixN (n + 1) 0 = some 0 := by unfold ixN; rw [if_pos (by omega), if_pos (by omega)]; rfl
theorem compG_two {u : UE} {d1 d2 : D} {v0 : Sl} {fs : List Sl} {k : List D → Prop} (h : u (.val d1 :: fs) fun y1 => u (.val d2 :: fs) fun y2 => k [y1, y2]) : compG (ugName 0) utTrue u [d1, d2] (v0 :: fs) k := by
  simp only [compG, ugName, utTrue, if_true]
  exact h
theorem sign_at {r : Int} (r0 : 0 ≤ r) (r1 : r < 22) : ∃ c, c < 128 ∧ atI (Str.ofString "0123456789-/,; .+eE_xn").cps.toList r = some c := by
  obtain ⟨n, rfl⟩ := Int.eq_ofNat_of_zero_le r0
  have h : ∀ n : Fin 22, (atI (Str.ofString "0123456789-/,; .+eE_xn").cps.toList ((n.1 : Nat) : Int)).any (fun c => decide (c < 128)) = true := by decide +kernel
  have h := h ⟨n, by omega⟩
  cases q : atI (Str.ofString "0123456789-/,; .+eE_xn").cps.toList (n : Int) with
  | none => rw [q] at h; cases h
  | some c => rw [q] at h; exact ⟨c, of_decide_eq_true h, rfl⟩
def ok8 (x : Str) : Bool := x.cps.toList.all (fun c => decide (c < 128)) && decide (x.length ≤ 200)
theorem ok8_iff {x : Str} (h : ok8 x = true) : (∀ c ∈ x.cps.toList, c < 128) ∧ x.cps.toList.length ≤ 200 := by
  unfold ok8 at h
  rw [Bool.and_eq_true] at h
  exact ⟨fun c hc => of_decide_eq_true (List.all_eq_true.mp h.1 c hc), of_decide_eq_true h.2⟩
theorem atI_strs {xs : List Str} {r : Int} (r0 : 0 ≤ r) (r1 : r < xs.length) : ∃ x ∈ xs, atI (xs.map D.str) r = some (.str x) := by
  obtain ⟨n, rfl⟩ := Int.eq_ofNat_of_zero_le r0
  have lt : n < xs.length := by omega
  refine ⟨xs[n], List.getElem_mem lt, ?_⟩
  unfold atI ixN
  rw [if_pos r0, List.length_map, if_pos r1]
  simp [lt]
end L3

/-! The head by tactics, where no code table is marked; of which classes an exception is not. -/
namespace L2
open PySem PySem.Spec PyProof.Rows PySem.W
theorem walk_of {l : PySem.W.OpenLaw} {n k : Nat} {q : Program} {loose : List Str} {XP : (Str → Option Value) → Heap → Prop} {YP : World → Heap → Prop} {d : DefRec} {K : Params → PySem.W.Frag} {CX : World → CXT} {sp : World → Sp} {x : Str}
    (hn : l.most = some n) (hn2 : n ≤ sizeLine) (hdf : d.params.defaults = []) (hr : Room k callerA) (hY : ∀ (w : World) (h : Heap), YP w h → (K w.params).In h) (hT : ∀ w : World, tabsK (K w.params) = [])
    (F : ∀ (w : World) (mg : Str → Option Value) (fa : Addr) (h : Heap), (K w.params).In h → h.Ns mainGlobals mg → mg d.name = some (.ref fa) →
      ∃ fd : FuncData, (∀ (s : Shared) (u : Value), BindsTo s fd ⟨[u], []⟩ [(x, u)]) ∧ ∀ base : Heap, (K w.params).In base → base.Ns mainGlobals mg → FnOk l.prog w (K w.params) mg base (CX w) k fa fd [x] (sp w))
    (hsp : ∀ (w : World) (H : Hp) (a : Addr) (ns : List Int), ns.length ≤ n → Only H → SqL (K w.params) H a (ns.map V.int) → sp w [.ref a] H (fun v _ => v = .bl true) fun _ _ _ => False)
    (hCX : ∀ (w : World) (H : Hp) (s : Shared) (e : Value) (s' : Shared), CX w [] H s (fun _ _ _ => False) e s' → False) :
    PySem.W.WalkO q loose XP YP l.row.toRowW d [] (fun f vs => PySem.call f vs) := by
  refine Att.attach_call hn hdf fun w s₀ s₁ mg mb fa o pm cd doc a vs ns G Y ho hd hcd hmg hobj hints hlen hg => ?_
  have KX := hY w _ Y
  obtain ⟨fd, hb, hF⟩ := F w mg fa _ KX G.T.g hmg
  exact law_call KX G.T.g G.T.b G.T.builtins G.T.nolimit hg hobj hints (Nat.le_trans hlen hn2) hr hF hb (fun _ => none) (fun b u z => by cases z) (fun p hp => by rw [hT w] at hp; cases hp) (fun H hO hS => hsp w H a ns hlen hO hS) fun H e s' z => hCX w H s₁ e s' z
theorem kit_each {K : PySem.W.Frag} {t : Value} : ∀ {cs : List Value}, kitAny K t cs = some false → ∀ c, c ∈ cs → kitOne K t c = some false
  | [], _, _, m => nomatch m
  | c :: r, h, d, m => by
    rw [kitAny] at h
    split at h
    · cases h
    · rename_i e
      rcases List.mem_cons.mp m with rfl | m
      · exact e
      · exact kit_each h d m
    · cases h
end L2
namespace L3
open PySem L2
theorem s_or {X : Cx} {st : Stmt} {u1 u2 : US} (h1 : PS3 X st u1) (h2 : PS3 X st u2) : PS3 X st (fun U ρ => u1 U ρ ∨ u2 U ρ) := by
  obtain ⟨t1, p1, r1⟩ := h1
  obtain ⟨t2, p2, r2⟩ := h2
  refine ⟨fun D σ H => t1 D σ H ∨ t2 D σ H, fun pins s σ H D I h => ?_, fun U ρ h R W B H σ D e s => ?_⟩
  · rcases h with h | h
    · exact p1 pins s σ H D I h
    · exact p2 pins s σ H D I h
  · rcases h with h | h
    · exact .inl (r1 U ρ h R W B H σ D e s)
    · exact .inr (r2 U ρ h R W B H σ D e s)
end L3

namespace Cut
open PySem L2 L3
open PySem.Builtin.Int (intBits)

--TOP
def top (i : Nat) : Stmt := PySem.Challenge.pw_slidecut_k68_texts_of_no_point.main.body.getD i (.Pass ⟨0, 0, 0, 0⟩)
abbrev s_greatest_divisor : Stmt := top 11
abbrev s_ratio : Stmt := top 12
abbrev s_at : Stmt := top 14
abbrev s_show_whole : Stmt := top 20
abbrev s_show_ratio : Stmt := top 21
abbrev s_is_whole : Stmt := top 22
abbrev s_read_whole : Stmt := top 23
abbrev s_read_ratio : Stmt := top 24
abbrev s_read_point : Stmt := top 25
abbrev s_law_cell : Stmt := top 27
abbrev s_law_bag : Stmt := top 28
abbrev s_law_draw : Stmt := top 29
abbrev s_law_great : Stmt := top 30
abbrev s_law_signed : Stmt := top 31
abbrev s_law_gcd : Stmt := top 32
abbrev s_law_lowest : Stmt := top 33
abbrev s_law_rat : Stmt := top 34
abbrev s_law_point : Stmt := top 35
abbrev s_law_is_whole : Stmt := top 36
abbrev s_law_ratio_in : Stmt := top 37
abbrev s_law_point_in : Stmt := top 38
abbrev s_law_sign_spoiled : Stmt := top 39
abbrev s_law_alone : Stmt := top 40
abbrev s_law_text : Stmt := top 41
abbrev s_law_odd : Stmt := top 42
abbrev s_law_right : Stmt := top 43
abbrev s_law : Stmt := top 44
--POT
structure Blts (mg : Str → Option Value) : Prop where
  len_ : mg "len" = none
  abs_ : mg "abs" = none
  int_ : mg "int" = none
  bool_ : mg "bool" = none
  tuple_ : mg "tuple" = none
  isinstance_ : mg "isinstance" = none
  range_ : mg "range" = none
  all_ : mg "all" = none
  sum_ : mg "sum" = none
  list_ : mg "list" = none
  ValueError_ : mg "ValueError" = none
  zip_ : mg "zip" = none
  str_ : mg "str" = none
  enumerate_ : mg "enumerate" = none
  set_ : mg "set" = none
  max_ : mg "max" = none
  min_ : mg "min" = none
  sorted_ : mg "sorted" = none
  dict_ : mg "dict" = none
local macro_rules | `(tactic| walk_at "bu") => `(tactic| first | assumption | exact intBits_sub_le (by walk_at "bu") (by walk_at "bu") | exact intBits_add_le (by walk_at "bu") (by walk_at "bu") | exact intBits_mul_le (by walk_at "bu") (by walk_at "bu") | exact intBits_neg_le (by walk_at "bu") | exact intBits_fdiv_le (by walk_at "bu") | exact bits_om (by omega) (by omega) | fail)
local macro_rules | `(tactic| walk_at "bits") => `(tactic| ((with_reducible show intBits _ ≤ _); first | assumption | exact Nat.le_trans (bits_om (by omega) (by omega)) (by decide) | decide +kernel | exact Nat.le_trans (by walk_at "bu") (by first | omega | decide) | fail))
local macro_rules | `(tactic| walk_at "sd") => `(tactic| first | ((with_reducible show intBits _ ≤ _); walk_at "bits") | ((with_reducible show CMulB _ _); exact ⟨by walk_at "bits", by walk_at "bits"⟩) | ((with_reducible show CDivB _ _); exact ⟨by omega, by walk_at "bits"⟩) | ((with_reducible show (_ : Int) < _); first | omega | decide +kernel) | ((with_reducible show (_ : Int) ≤ _); first | omega | decide +kernel) | ((with_reducible show CPow _ _); exact ⟨by decide, by decide, by decide⟩) | ((with_reducible show List.length _ ≤ sizeLine); first | (show 2 ≤ sizeLine; decide) | (show 3 ≤ sizeLine; decide) | (show 1 ≤ sizeLine; decide) | (show 0 ≤ sizeLine; decide) | (show 4 ≤ sizeLine; decide)) | fail)
local macro_rules | `(tactic| walk_at "w1") => `(tactic| first | refine ⟨_, rfl, ?_⟩ | refine ⟨_, _, rfl, rfl, ?_⟩ | refine ⟨_, _, rfl, rfl, by walk_at "sd", ?_⟩ | refine ⟨_, _, _, .inl rfl, rfl, rfl, ?_⟩ | refine ⟨_, _, _, .inr rfl, rfl, rfl, ?_⟩ | refine ⟨_, _, rfl, fun _ => rfl, ?_⟩ | refine ⟨by walk_at "sd", ?_⟩ | refine ⟨rfl, ?_⟩)
local macro_rules | `(tactic| walk_at "w") => `(tactic| repeat walk_at "w1")
local macro_rules | `(tactic| walk_at "wd") => `(tactic| (walk_at "w"; try dsimp only [fzR]))
local macro_rules | `(tactic| walk_at "it") => `(tactic| first | exact .inl (by assumption) | exact .inr (by assumption))
local macro_rules | `(tactic| walk_at "r0") => `(tactic| repeat (first | refine ⟨_, rfl, ?_⟩ | refine ⟨_, _, rfl, rfl, ?_⟩ | refine ⟨_, _, _, _, rfl, rfl, by walk_at "it", rfl, ?_⟩ | refine ⟨by walk_at "sd", ?_⟩))
local macro_rules | `(tactic| walk_at "rd") => `(tactic| (walk_at "r0"; try dsimp only))
local macro_rules | `(tactic| walk_at "fall") => `(tactic| first | exact List.forall_mem_cons.mpr ⟨rfl, by walk_at "fall"⟩ | exact List.forall_mem_nil _)
local macro_rules | `(tactic| walk_at "fal2") => `(tactic| first | exact List.forall_mem_nil _ | exact List.forall_mem_cons.mpr ⟨fun h => absurd h (by decide), by walk_at "fal2"⟩ | exact List.forall_mem_cons.mpr ⟨fun _ => ⟨_, rfl⟩, by walk_at "fal2"⟩)
local macro_rules | `(tactic| walk_at "fsub") => `(tactic| exact fsub_of (by walk_at "fall"))
local macro_rules | `(tactic| walk_at "fhas") => `(tactic| exact fhas_of (by walk_at "fal2"))
local macro_rules | `(tactic| walk_at "ffr") => `(tactic| (intro i y e; rcases i with _ | _ | _ | _ | _ | i <;> first | (cases e; done) | (cases e; exact ⟨_, rfl, rfl, rfl, Or.inl rfl, _, rfl⟩)))

theorem sc_law_cell : FnScope ["_law_script", "_law_k"] ["_law_script", "_law_k"] (defScope s_law_cell) := ⟨rfl, rfl, rfl, by decide +kernel, rfl, by decide +kernel, by decide +kernel⟩
theorem ok_law_cell {P : Program} {w : World} {K : PySem.W.Frag} {mg : Str → Option Value} {base : Heap} (B : Blts mg) (F : Fnd K mg "_law_cell" s_law_cell ["_law_script", "_law_k"]) :
    Cal P w K mg base "_law_cell" ["_law_script", "_law_k"] 1 (Con K 2 F_cell) := by
  refine Cal.imp (sp := spCell K) ?_ (fun vs H Q E h => cell_con h)
  refine F.ok (k := 0) sc_law_cell (fun vs H Q E h => ?_) (fun f cdv A outer s H vs Q E hr h => ?_)
  · obtain ⟨a, k, ns, rfl, hS, h0, q⟩ := h
    rfl
  obtain ⟨a, k, ns, rfl, hS, h0, q⟩ := h
  refine ⟨_, (pss_cons (ps_if (pt_cmpR op_lt (pv 1) (pe_callB call_len_seq (by rfl) B.len_ (by decide +kernel) (pa_cons (pv 0) pa_nil)) (nomark _)) (pss_one (ps_ret (pe_ix ix_list (pv 0) (pv 1) (fun _ _ => rfl)))) pss_nil) (pss_one (ps_ret pe_int))), ?_⟩
  refine ⟨_, rfl, _, rfl, a, _, rfl, .inl hS, _, _, rfl, rfl, _, rfl, ?_⟩
  refine iteD (fun c => ?_) (fun c => ?_)
  · rw [List.length_map] at c
    have hk : k.toNat < ns.length := by omega
    have ek : k = ((k.toNat : Nat) : Int) := by omega
    have z : atI (ns.map V.int) ((k.toNat : Nat) : Int) = some (.int ns[k.toNat]) := atI_nat (by rw [List.getElem?_map, List.getElem?_eq_getElem hk] <;> rfl)
    rw [← ek] at z
    exact ⟨_, rfl, _, rfl, a, _, _, _, rfl, rfl, hS, z, q _⟩
  · exact q _

theorem sc_law_bag : FnScope ["_law_cell_here"] ["_law_cell_here"] (defScope s_law_bag) := ⟨rfl, rfl, rfl, by decide +kernel, rfl, by decide +kernel, by decide +kernel⟩
theorem ok_bagA {P : Program} {w : World} {K : PySem.W.Frag} {mg : Str → Option Value} {base : Heap} (B : Blts mg) (F : Fnd K mg "_law_bag" s_law_bag ["_law_cell_here"]) :
    Cal P w K mg base "_law_bag" ["_law_cell_here"] 1 (Con K 1 F_bag) := by
  refine Cal.imp (sp := spBag) ?_ (fun vs H Q E h => bag_con h)
  refine F.ok (k := 0) sc_law_bag (fun vs H Q E h => ?_) (fun f cdv A outer s H vs Q E hr h => ?_)
  · obtain ⟨c, rfl, q⟩ := h
    rfl
  obtain ⟨c, rfl, q⟩ := h
  refine ⟨_, (pss_cons (ps_if (pt_cmpR op_ge (pv 0) (pe_op op_pow pe_int pe_int) (nomark _)) (pss_one (ps_ret (pe_lst (pa_cons (pv 0) (pa_cons (pe_op op_mod (pv 0) pe_int) pa_nil))))) pss_nil) (pss_one (ps_ret (pe_lst (pa_cons pe_int (pa_cons (pe_op op_mod (pe_op op_add (pe_op op_mulB (pe_op op_mod (pv 0) pe_int) pe_int) pe_int) pe_int) pa_nil)))))), ?_⟩
  walk_at "rd"
  have e18 : (10 : Int) ^ ((18 : Int).toNat) = 1000000000000000000 := rfl
  refine iteD (fun g => ?_) (fun g => ?_)
  · rw [e18] at g
    walk_at "rd"
    refine (fun p hp => q p _ _ hp (by omega) ?_ ?_)
    · exact Int.emod_nonneg _ (by decide)
    · exact Int.emod_lt_of_pos _ (by decide)
  · have m0 := Int.emod_nonneg c (show (2147483647 : Int) ≠ 0 by decide)
    have m1 := Int.emod_lt_of_pos c (show (0 : Int) < 2147483647 by decide)
    walk_at "rd"
    refine (fun p hp => q p _ _ hp (by decide) ?_ ?_)
    · exact Int.emod_nonneg _ (by decide)
    · exact Int.emod_lt_of_pos _ (by decide)

theorem sc_law_draw : FnScope ["_law_bag_here", "_law_many", "_law_found"] ["_law_bag_here", "_law_many"] (defScope s_law_draw) := ⟨rfl, rfl, rfl, by decide +kernel, rfl, by decide +kernel, by decide +kernel⟩
theorem ok_drawA {P : Program} {w : World} {K : PySem.W.Frag} {mg : Str → Option Value} {base : Heap} (B : Blts mg) (F : Fnd K mg "_law_draw" s_law_draw ["_law_bag_here", "_law_many"]) :
    Cal P w K mg base "_law_draw" ["_law_bag_here", "_law_many"] 1 (Con K 2 (F_draw 400)) := by
  refine Cal.imp (sp := spDraw 400) ?_ (fun vs H Q E h => draw_con h)
  refine F.ok (k := 0) sc_law_draw (fun vs H Q E h => ?_) (fun f cdv A outer s H vs Q E hr h => ?_)
  · obtain ⟨b, m, rfl, ⟨x, y, hb, x0, y0, y1⟩, m0, m1, q⟩ := h
    rfl
  obtain ⟨b, m, rfl, ⟨x, y, hb, x0, y0, y1⟩, m0, m1, q⟩ := h
  refine ⟨_, (pss_cons (ps_if (pt_cmpR op_gt (pe_ix ix_any (pv 0) pe_int (fun _ _ => rfl)) pe_int (nomark _)) (pss_cons (ps_set (i := 2) sc_law_draw.nd rfl (Or.inl rfl) (pe_op op_mod (pe_ix ix_any (pv 0) pe_int (fun _ _ => rfl)) (pv 1))) (pss_cons (ps_asg (pe_op op_fdivB (pe_ix ix_any (pv 0) pe_int (fun _ _ => rfl)) (pv 1)) (pg_sub (pv 0) pe_int set_list)) (pss_one (ps_ret (pv 2))))) pss_nil) (pss_cons (ps_asg (pe_op op_mod (pe_op op_add (pe_op op_mulB (pe_ix ix_any (pv 0) pe_int (fun _ _ => rfl)) pe_int) pe_int) pe_int) (pg_sub (pv 0) pe_int set_list)) (pss_one (ps_ret (pe_op op_mod (pe_op op_fdivB (pe_op op_mod (pe_op op_mulB (pe_ix ix_any (pv 0) pe_int (fun _ _ => rfl)) (pe_op op_add (pe_op op_fdivB (pe_ix ix_any (pv 0) pe_int (fun _ _ => rfl)) pe_int) pe_int)) pe_int) pe_int) (pv 1)))))), ?_⟩
  walk_at "rd"
  refine iteD (fun g => ?_) (fun g => ?_)
  · walk_at "rd"
    refine ⟨b, _, _, _, rfl, rfl, hb, rfl, ?_⟩
    refine ⟨_, rfl, ?_⟩
    refine q _ _ (Ext.upd b H _) ⟨_, _, upd_same, ?_, y0, y1⟩ (Int.emod_nonneg _ (by omega)) (Int.emod_lt_of_pos _ m0)
    exact Int.fdiv_nonneg x0 (Int.le_of_lt m0)
  · have m2 := Int.emod_nonneg (y * 48271 + 4099) (show (2147483647 : Int) ≠ 0 by decide)
    have m3 := Int.emod_lt_of_pos (y * 48271 + 4099) (show (0 : Int) < 2147483647 by decide)
    walk_at "rd"
    refine ⟨b, _, _, _, rfl, rfl, hb, rfl, ?_⟩
    generalize (y * 48271 + 4099) % 2147483647 = z at m2 m3 ⊢
    have hb2 : (upd H b (.lst ([V.int x, V.int y].set 1 (V.int z)))) b = some (.lst [.int x, .int z]) := upd_same
    have k0 := Int.ediv_nonneg m2 (show (0 : Int) ≤ 65536 by decide)
    have k1 : z / 65536 ≤ z := Int.ediv_le_self _ m2
    have ek : Int.fdiv z 65536 = z / 65536 := Int.fdiv_eq_ediv_of_nonneg z (by decide)
    have kb : intBits (Int.fdiv z 65536 + 7) ≤ 64 := by rw [ek]; exact bits_om (by omega) (by omega)
    walk_at "rd"
    refine q _ _ (Ext.upd b H _) ⟨_, _, hb2, x0, m2, m3⟩ (Int.emod_nonneg _ (by omega)) (Int.emod_lt_of_pos _ m0)

theorem sc_law_great : FnScope ["_law_bag_here", "_law_number", "_law_k"] ["_law_bag_here"] (defScope s_law_great) := ⟨rfl, rfl, rfl, by decide +kernel, rfl, by decide +kernel, by decide +kernel⟩

def F_law_great  : FS := fun as k =>  as = [.bag] ∧ ∀ r : Int, 0 ≤ r → r < 10 ^ 30 → k (.val (.int r))
theorem ok_law_great {P : Program} {w : World} {K : PySem.W.Frag} {mg : Str → Option Value} {base : Heap} (B : Blts mg)   (F : Fnd K mg "_law_great" s_law_great ["_law_bag_here"]) (c_law_draw : Cal P w K mg base "_law_draw" ["_law_bag_here", "_law_many"] 1 (Con K 2 (F_draw 400))) :
    Cal P w K mg base "_law_great" ["_law_bag_here"] 2 (Con K 1 F_law_great) := by
  refine def3 (lv := 1) F sc_law_great rfl (fun f cdv A outer s H E hr => ⟨_, (s_cons (s_set (i := 1) sc_law_great.nd rfl (Or.inl rfl) (e_call c_law_draw hr (by rfl) (a_bag 0 (a_val e_int a_nil)))) (s_cons (s_for PassesOwn.never rfl (i_rng e_int (by rfl) B.range_) (g_name (i := 2) sc_law_great.nd rfl (Or.inl rfl)) (s_one (s_set (i := 1) sc_law_great.nd rfl (Or.inl rfl) (e_add (e_mul (v3 1) (e_pow e_int e_int)) (e_call c_law_draw hr (by rfl) (a_bag 0 (a_val (e_pow e_int e_int) a_nil))))))) (s_one (s_ret (v3 1))))), ?_⟩)
  rintro as k hl ⟨rfl, hk⟩
  refine at3 (r := [.bag, .no, .no]) rfl ?_
  walk_at "w"
  intro r r0 r1
  dsimp only [fzR]
  refine mid4 (fun ρ => ∃ (n : Int) (v : Sl), ρ = [.bag, .val (.int n), v] ∧ 0 ≤ n ∧ n < 10 ^ 30) ?_ (fun N kk => ?_)
  · rintro ρ ⟨n, v, rfl, n0, n1⟩
    exact ⟨_, rfl, hk n n0 n1⟩
  refine ⟨_, rfl, by decide, by decide, ?_⟩
  refine forR_rng (n := 4) (fun i ρ => ∃ (n : Int) (v : Sl), ρ = [.bag, .val (.int n), v] ∧ 0 ≤ n ∧ n < 10 ^ (2 + 7 * i)) ⟨r, _, rfl, r0, r1⟩ ?_ ?_
  · rintro i ρ hi ⟨n, v, rfl, n0, n1⟩ N kk
    have nb : intBits n ≤ 110 := by
      have p1 : (10 : Int) ^ (2 + 7 * i) ≤ 10 ^ 30 := by
        have : i = 0 ∨ i = 1 ∨ i = 2 ∨ i = 3 := by omega
        rcases this with rfl | rfl | rfl | rfl <;> decide
      refine intBits_le_iff.mpr ?_
      have e30 : (10 : Int) ^ 30 = 1000000000000000000000000000000 := rfl
      have e110 : (2 : Nat) ^ 110 = 1298074214633706907132624082305024 := rfl
      rw [e110]
      rw [e30] at p1
      omega
    walk_at "w"
    intro d d0 d1
    walk_at "w"
    have z := great_step (k := 2 + 7 * i) n0 n1 d0 d1
    exact kk _ ⟨_, _, rfl, z.1, z.2⟩
  · rintro ρ ⟨n, v, rfl, n0, n1⟩
    exact kk _ ⟨n, v, rfl, n0, n1⟩

theorem sc_law_signed : FnScope ["_law_bag_here"] ["_law_bag_here"] (defScope s_law_signed) := ⟨rfl, rfl, rfl, by decide +kernel, rfl, by decide +kernel, by decide +kernel⟩

def F_law_signed  : FS := fun as k =>  as = [.bag] ∧ ∀ r : Int, -(10 ^ 30) < r → r < 10 ^ 30 → k (.val (.int r))
theorem ok_law_signed {P : Program} {w : World} {K : PySem.W.Frag} {mg : Str → Option Value} {base : Heap} (B : Blts mg)   (F : Fnd K mg "_law_signed" s_law_signed ["_law_bag_here"]) (c_law_draw : Cal P w K mg base "_law_draw" ["_law_bag_here", "_law_many"] 1 (Con K 2 (F_draw 400))) (c_law_great : Cal P w K mg base "_law_great" ["_law_bag_here"] 2 (Con K 1 F_law_great)) :
    Cal P w K mg base "_law_signed" ["_law_bag_here"] 3 (Con K 1 F_law_signed) := by
  refine def3 (lv := 2) F sc_law_signed rfl (fun f cdv A outer s H E hr => ⟨_, (s_cons (s_if (t_cmp (f := fun i j => decide (i = j)) op_eqI (e_call c_law_draw hr (by rfl) (a_bag 0 (a_val e_int a_nil))) e_int (nomark _)) (s_one (s_ret (e_call c_law_great hr (by rfl) (a_bag 0 a_nil)))) s_nil) (s_one (s_ret (e_neg (e_call c_law_great hr (by rfl) (a_bag 0 a_nil)))))), ?_⟩)
  rintro as k hl ⟨rfl, hk⟩
  refine at3 (r := [.bag]) rfl ?_
  walk_at "w"
  intro r r0 r1
  walk_at "wd"
  refine iteD (fun _ => ?_) (fun _ => ?_)
  · walk_at "w"
    intro n n0 n1
    exact hk n (Int.lt_of_lt_of_le (by decide) n0) n1
  · walk_at "w"
    intro n n0 n1
    exact ⟨_, rfl, hk _ (Int.neg_lt_neg n1) (Int.lt_of_le_of_lt (Int.neg_nonpos_of_nonneg n0) (by decide))⟩

theorem sc_law_gcd : FnScope ["_law_one", "_law_two", "_law_rest"] ["_law_one", "_law_two"] (defScope s_law_gcd) := ⟨rfl, rfl, rfl, by decide +kernel, rfl, by decide +kernel, by decide +kernel⟩

def F_law_gcd  : FS := fun as k => ∃ (a b : Int), as = [.val (.int a), .val (.int b)] ∧ k (.val (.int (Int.gcd a b : Nat)))
theorem ok_law_gcd {P : Program} {w : World} {K : PySem.W.Frag} {mg : Str → Option Value} {base : Heap} (B : Blts mg)   (F : Fnd K mg "_law_gcd" s_law_gcd ["_law_one", "_law_two"])  :
    Cal P w K mg base "_law_gcd" ["_law_one", "_law_two"] 2 (Con K 2 F_law_gcd) := by
  refine def3 (lv := 1) F sc_law_gcd rfl (fun f cdv A outer s H E hr => ⟨_, (s_cons (s_set (i := 0) sc_law_gcd.nd rfl (Or.inl rfl) (e_abs (v3 0) (by rfl) B.abs_)) (s_cons (s_set (i := 1) sc_law_gcd.nd rfl (Or.inl rfl) (e_abs (v3 1) (by rfl) B.abs_)) (s_cons (s_while PassesOwn.never (t_cmp (f := fun i j => decide (j < i)) op_gt (v3 1) e_int (nomark _)) (s_cons (s_set (i := 2) sc_law_gcd.nd rfl (Or.inl rfl) (e_mod (v3 0) (v3 1))) (s_cons (s_set (i := 0) sc_law_gcd.nd rfl (Or.inl rfl) (v3 1)) (s_one (s_set (i := 1) sc_law_gcd.nd rfl (Or.inl rfl) (v3 2)))))) (s_one (s_ret (v3 0)))))), ?_⟩)
  rintro as k hl ⟨a, b, rfl, hk⟩
  refine at3 (r := [.val (.int a), .val (.int b), .no]) rfl ?_
  walk_at "wd"
  refine ⟨fun m ρ => ∃ (x y : Int) (v : Sl), ρ = [.val (.int x), .val (.int y), v] ∧ 0 ≤ x ∧ 0 ≤ y ∧ Int.gcd x y = Int.gcd a b ∧ m = y.toNat, ⟨_, _, _, _, rfl, ?_, ?_, gcd_abs a b, rfl⟩, ?_⟩
  · split <;> omega
  · split <;> omega
  rintro m ρ ⟨x, y, v, rfl, x0, y0, hg, rfl⟩
  walk_at "wd"
  refine iteD (fun g => ?_) (fun g => ?_)
  · walk_at "wd"
    have m0 := Int.emod_nonneg x (show y ≠ 0 by omega)
    have m1 := Int.emod_lt_of_pos x g
    exact ⟨_, by omega, _, _, _, rfl, y0, m0, by rw [gcd_step x0 g]; exact hg, rfl⟩
  · have e : y = 0 := by omega
    subst e
    refine ⟨_, rfl, ?_⟩
    rw [← gcd_zero_left x0, hg]
    exact hk

theorem sc_law_lowest : FnScope ["_law_top", "_law_bottom", "_law_both"] ["_law_top", "_law_bottom"] (defScope s_law_lowest) := ⟨rfl, rfl, rfl, by decide +kernel, rfl, by decide +kernel, by decide +kernel⟩

def F_lowestP  : FS := fun as k => ∃ (t b : Int), as = [.val (.int t), .val (.int b)] ∧ (0 < b) ∧ (intBits b ≤ 9000) ∧ k (.val (dR (nrat t b)))
theorem ok_lowestP {P : Program} {w : World} {K : PySem.W.Frag} {mg : Str → Option Value} {base : Heap} (B : Blts mg)   (F : Fnd K mg "_law_lowest" s_law_lowest ["_law_top", "_law_bottom"]) (c_law_gcd : Cal P w K mg base "_law_gcd" ["_law_one", "_law_two"] 2 (Con K 2 F_law_gcd)) :
    Cal P w K mg base "_law_lowest" ["_law_top", "_law_bottom"] 3 (Con K 2 F_lowestP) := by
  refine def3 (lv := 2) F sc_law_lowest rfl (fun f cdv A outer s H E hr => ⟨_, (s_cons (s_if (t_cmp (f := fun i j => decide (i < j)) op_lt (v3 1) e_int (nomark _)) ss_never s_nil) (s_cons (s_set (i := 2) sc_law_lowest.nd rfl (Or.inl rfl) (e_call c_law_gcd hr (by rfl) (a_val (v3 0) (a_val (v3 1) a_nil)))) (s_one (s_ret (e_tup (l_cons (e_fdiv (v3 0) (v3 2)) (l_cons (e_fdiv (v3 1) (v3 2)) l_nil))))))), ?_⟩)
  rintro as k hl ⟨t, b, rfl, hb, bb, hk⟩
  refine at3 (r := [.val (.int t), .val (.int b), .no]) rfl ?_
  have gp := gcd_pos (t := t) (b := b) (by omega)
  have gb := gcd_bits (a := t) (b := b) (by omega) bb
  have e : gsg t b = ((Int.gcd t b : Nat) : Int) := by unfold gsg; rw [if_neg (by omega)]
  have hk : k (.val (.tup [.int (t.fdiv ((Int.gcd t b : Nat) : Int)), .int (b.fdiv ((Int.gcd t b : Nat) : Int))])) := by
    have h := hk
    unfold dR nrat at h
    rw [e] at h
    exact h
  walk_at "wd"
  refine iteD (fun g => absurd g (by omega)) (fun _ => ?_)
  walk_at "w"
  refine ⟨_, _, rfl, ?_⟩
  walk_at "w"
  exact hk


def F_lowestN  : FS := fun as k => ∃ (t b : Int), as = [.val (.int t), .val (.int b)] ∧ (b ≠ 0) ∧ (intBits b ≤ 9000) ∧ k (.val (dR (nrat t b)))
theorem ok_lowestN {P : Program} {w : World} {K : PySem.W.Frag} {mg : Str → Option Value} {base : Heap} (B : Blts mg)   (F : Fnd K mg "_law_lowest" s_law_lowest ["_law_top", "_law_bottom"]) (c_law_lowest : Cal P w K mg base "_law_lowest" ["_law_top", "_law_bottom"] 3 (Con K 2 F_lowestP)) (c_law_gcd : Cal P w K mg base "_law_gcd" ["_law_one", "_law_two"] 2 (Con K 2 F_law_gcd)) :
    Cal P w K mg base "_law_lowest" ["_law_top", "_law_bottom"] 4 (Con K 2 F_lowestN) := by
  refine def3 (lv := 3) F sc_law_lowest rfl (fun f cdv A outer s H E hr => ⟨_, (s_cons (s_if (t_cmp (f := fun i j => decide (i < j)) op_lt (v3 1) e_int (nomark _)) (s_one (s_ret (e_call c_law_lowest hr (by rfl) (a_val (e_neg (v3 0)) (a_val (e_neg (v3 1)) a_nil))))) s_nil) (s_cons (s_set (i := 2) sc_law_lowest.nd rfl (Or.inl rfl) (e_call c_law_gcd hr (by rfl) (a_val (v3 0) (a_val (v3 1) a_nil)))) (s_one (s_ret (e_tup (l_cons (e_fdiv (v3 0) (v3 2)) (l_cons (e_fdiv (v3 1) (v3 2)) l_nil))))))), ?_⟩)
  rintro as k hl ⟨t, b, rfl, hb, bb, hk⟩
  refine at3 (r := [.val (.int t), .val (.int b), .no]) rfl ?_
  walk_at "wd"
  refine iteD (fun g => ?_) (fun g => ?_)
  · walk_at "w"
    refine ⟨-t, -b, rfl, by omega, intBits_neg_le bb, ?_⟩
    rw [nrat_neg hb]
    exact hk
  have gp := gcd_pos (t := t) (b := b) (by omega)
  have gb := gcd_bits (a := t) (b := b) (by omega) bb
  have e : gsg t b = ((Int.gcd t b : Nat) : Int) := by unfold gsg; rw [if_neg (by omega)]
  have hk : k (.val (.tup [.int (t.fdiv ((Int.gcd t b : Nat) : Int)), .int (b.fdiv ((Int.gcd t b : Nat) : Int))])) := by
    have h := hk
    unfold dR nrat at h
    rw [e] at h
    exact h
  walk_at "w"
  refine ⟨_, _, rfl, ?_⟩
  walk_at "w"
  exact hk

theorem sc_law_rat : FnScope ["_law_bag_here", "_law_way"] ["_law_bag_here"] (defScope s_law_rat) := ⟨rfl, rfl, rfl, by decide +kernel, rfl, by decide +kernel, by decide +kernel⟩

def F_ratW  : FS := fun as k =>  as = [.bag] ∧ ∀ x y : Int, Low x y → x.natAbs < 1000000000000000000000000000000 → y.natAbs < 1000000000000000000000000000000 → k (.val (dR (x, y)))
theorem ok_ratW {P : Program} {w : World} {K : PySem.W.Frag} {mg : Str → Option Value} {base : Heap} (B : Blts mg)   (F : Fnd K mg "_law_rat" s_law_rat ["_law_bag_here"]) (c_law_draw : Cal P w K mg base "_law_draw" ["_law_bag_here", "_law_many"] 1 (Con K 2 (F_draw 400))) (c_law_lowest : Cal P w K mg base "_law_lowest" ["_law_top", "_law_bottom"] 4 (Con K 2 F_lowestN)) (c_law_great : Cal P w K mg base "_law_great" ["_law_bag_here"] 2 (Con K 1 F_law_great)) (c_law_signed : Cal P w K mg base "_law_signed" ["_law_bag_here"] 3 (Con K 1 F_law_signed)) :
    Cal P w K mg base "_law_rat" ["_law_bag_here"] 5 (Con K 1 F_ratW) := by
  refine def3 (lv := 4) F sc_law_rat rfl (fun f cdv A outer s H E hr => ⟨_, (s_cons (s_set (i := 1) sc_law_rat.nd rfl (Or.inl rfl) (e_call c_law_draw hr (by rfl) (a_bag 0 (a_val e_int a_nil)))) (s_cons (s_if (t_cmp (f := fun i j => decide (i = j)) op_eqI (v3 1) e_int (nomark _)) (s_one (s_ret (e_call c_law_lowest hr (by rfl) (a_val (e_call c_law_signed hr (by rfl) (a_bag 0 a_nil)) (a_val (e_add e_int (e_fdiv (e_call c_law_great hr (by rfl) (a_bag 0 a_nil)) e_int)) a_nil))))) s_nil) (s_cons (s_if (t_cmp (f := fun i j => decide (i = j)) op_eqI (v3 1) e_int (nomark _)) (s_one (s_ret (e_call c_law_lowest hr (by rfl) (a_val (e_sub (e_call c_law_draw hr (by rfl) (a_bag 0 (a_val e_int a_nil))) e_int) (a_val (e_add e_int (e_call c_law_draw hr (by rfl) (a_bag 0 (a_val e_int a_nil)))) a_nil))))) s_nil) (s_one (s_ret (e_call c_law_lowest hr (by rfl) (a_val (e_sub (e_call c_law_draw hr (by rfl) (a_bag 0 (a_val e_int a_nil))) e_int) (a_val (e_add e_int (e_call c_law_draw hr (by rfl) (a_bag 0 (a_val e_int a_nil)))) a_nil)))))))), ?_⟩)
  rintro as k hl ⟨rfl, hk⟩
  refine at3 (r := [.bag, .no]) rfl ?_
  walk_at "w"
  intro w w0 w1
  walk_at "wd"
  have fin : ∀ t b : Int, 0 < b → t.natAbs < 1000000000000000000000000000000 → b.natAbs < 1000000000000000000000000000000 → k (.val (dR (nrat t b))) := fun t b b0 bt bb => by
    obtain ⟨l, _, c1, c2⟩ := nrat_spec (t := t) (b := b) (by omega)
    exact hk _ _ l (Nat.lt_of_le_of_lt c1 bt) (Nat.lt_of_le_of_lt c2 bb)
  have e30 : (10 : Int) ^ 30 = 1000000000000000000000000000000 := rfl
  refine iteD (fun _ => ?_) (fun _ => ?_)
  · walk_at "w"
    intro t t0 t1
    walk_at "w"
    intro n n0 n1
    have e2d : Int.fdiv n 2 = n / 2 := Int.fdiv_eq_ediv_of_nonneg n (by decide)
    have b3 : intBits (1 + Int.fdiv n 2) ≤ 100 := by refine bits30 ?_ ?_ <;> omega
    walk_at "w"
    exact ⟨t, _, rfl, by omega, by walk_at "bits", fin _ _ (by omega) (by omega) (by omega)⟩
  walk_at "wd"
  refine iteD (fun _ => ?_) (fun _ => ?_)
  · walk_at "w"
    intro t t0 t1
    walk_at "w"
    intro n n0 n1
    walk_at "w"
    exact ⟨_, _, rfl, by omega, by walk_at "bits", fin _ _ (by omega) (by omega) (by omega)⟩
  walk_at "w"
  intro t t0 t1
  walk_at "w"
  intro n n0 n1
  walk_at "w"
  exact ⟨_, _, rfl, by omega, by walk_at "bits", fin _ _ (by omega) (by omega) (by omega)⟩

theorem sc_law_point : FnScope ["_law_a", "_law_b", "_law_n", "_law_both"] ["_law_a", "_law_b", "_law_n"] (defScope s_law_point) := ⟨rfl, rfl, rfl, by decide +kernel, rfl, by decide +kernel, by decide +kernel⟩

def F_law_point  : FS := fun as k => ∃ (a b n : Int), as = [.val (.int a), .val (.int b), .val (.int n)] ∧ (n ≠ 0) ∧ (intBits n ≤ 9000) ∧ k (.val (dP (npt a b n)))
theorem ok_law_point {P : Program} {w : World} {K : PySem.W.Frag} {mg : Str → Option Value} {base : Heap} (B : Blts mg)   (F : Fnd K mg "_law_point" s_law_point ["_law_a", "_law_b", "_law_n"]) (c_law_gcd : Cal P w K mg base "_law_gcd" ["_law_one", "_law_two"] 2 (Con K 2 F_law_gcd)) :
    Cal P w K mg base "_law_point" ["_law_a", "_law_b", "_law_n"] 3 (Con K 3 F_law_point) := by
  refine def3 (lv := 2) F sc_law_point rfl (fun f cdv A outer s H E hr => ⟨_, (s_cons (s_set (i := 3) sc_law_point.nd rfl (Or.inl rfl) (e_call c_law_gcd hr (by rfl) (a_val (e_call c_law_gcd hr (by rfl) (a_val (v3 0) (a_val (v3 2) a_nil))) (a_val (v3 1) a_nil)))) (s_cons (s_if (t_cmp (f := fun i j => decide (i < j)) op_lt (v3 2) e_int (nomark _)) (s_one (s_set (i := 3) sc_law_point.nd rfl (Or.inl rfl) (e_neg (v3 3)))) s_nil) (s_one (s_ret (e_tup (l_cons (e_fdiv (v3 0) (v3 3)) (l_cons (e_fdiv (v3 1) (v3 3)) (l_cons (e_fdiv (v3 2) (v3 3)) l_nil)))))))), ?_⟩)
  rintro as k hl ⟨a, b, n, rfl, hn, bn, hk⟩
  refine at3 (r := [.val (.int a), .val (.int b), .val (.int n), .no]) rfl ?_
  walk_at "w"
  refine ⟨_, _, rfl, ?_⟩
  walk_at "w"
  refine ⟨_, _, rfl, ?_⟩
  dsimp only [fzR]
  have gp := g3_pos (a := a) (b := b) hn
  have gb := g3_bits (a := a) (b := b) hn bn
  rw [g3_an a b n]
  refine mid4 (fun ρ => ρ = [.val (.int a), .val (.int b), .val (.int n), .val (.int (gsp a b n))]) ?_ (fun N kk => ?_)
  · rintro ρ rfl
    have d0 : gsp a b n ≠ 0 := by unfold gsp; split <;> omega
    have db : intBits (gsp a b n) ≤ 9000 := by
      unfold gsp
      split
      · exact intBits_neg_le gb
      · exact gb
    walk_at "w"
    exact hk
  · walk_at "wd"
    refine iteD (fun g => ?_) (fun g => ?_)
    · walk_at "w"
      refine kk _ ?_
      unfold gsp
      rw [if_pos g]
      rfl
    · refine kk _ ?_
      unfold gsp
      rw [if_neg g]
      rfl

theorem sc_greatest_divisor : FnScope ["one", "other"] ["one", "other"] (defScope s_greatest_divisor) := ⟨rfl, rfl, rfl, by decide +kernel, rfl, by decide +kernel, by decide +kernel⟩

def F_greatest_divisor  : FS := fun as k => ∃ (a b : Int), as = [.val (.int a), .val (.int b)] ∧ k (.val (.int (Int.gcd a b : Nat)))
theorem ok_greatest_divisor {P : Program} {w : World} {K : PySem.W.Frag} {mg : Str → Option Value} {base : Heap} (B : Blts mg)   (F : Fnd K mg "greatest_divisor" s_greatest_divisor ["one", "other"])  :
    Cal P w K mg base "greatest_divisor" ["one", "other"] 2 (Con K 2 F_greatest_divisor) := by
  refine def3 (lv := 1) F sc_greatest_divisor rfl (fun f cdv A outer s H E hr => ⟨_, (s_cons (s_set (i := 0) sc_greatest_divisor.nd rfl (Or.inl rfl) (e_abs (v3 0) (by rfl) B.abs_)) (s_cons (s_set (i := 1) sc_greatest_divisor.nd rfl (Or.inl rfl) (e_abs (v3 1) (by rfl) B.abs_)) (s_cons (s_while PassesOwn.never (t_cmp (f := fun i j => !decide (i = j)) op_neI (v3 1) e_int (nomark _)) (s_one (s_par (i := 0) (j := 1) rfl sc_greatest_divisor.nd rfl rfl (by decide) rfl rfl (l_cons (v3 1) (l_cons (e_mod (v3 0) (v3 1)) l_nil)) rfl))) (s_one (s_ret (v3 0)))))), ?_⟩)
  rintro as k hl ⟨a, b, rfl, hk⟩
  refine at3 (r := [.val (.int a), .val (.int b)]) rfl ?_
  walk_at "wd"
  refine ⟨fun m ρ => ∃ (x y : Int), ρ = [.val (.int x), .val (.int y)] ∧ 0 ≤ x ∧ 0 ≤ y ∧ Int.gcd x y = Int.gcd a b ∧ m = y.toNat, ⟨_, _, _, rfl, ?_, ?_, gcd_abs a b, rfl⟩, ?_⟩
  · split <;> omega
  · split <;> omega
  rintro m ρ ⟨x, y, rfl, x0, y0, hg, rfl⟩
  walk_at "wd"
  refine iteDn (fun g => ?_) (fun g => ?_)
  · have g : 0 < y := by omega
    walk_at "wd"
    have m0 := Int.emod_nonneg x (show y ≠ 0 by omega)
    have m1 := Int.emod_lt_of_pos x g
    exact ⟨_, _, rfl, _, by omega, _, _, rfl, y0, m0, by rw [gcd_step x0 g]; exact hg, rfl⟩
  · subst g
    refine ⟨_, rfl, ?_⟩
    rw [← gcd_zero_left x0, hg]
    exact hk

theorem sc_ratio : FnScope ["top", "bottom", "divisor"] ["top", "bottom"] (defScope s_ratio) := ⟨rfl, rfl, rfl, by decide +kernel, rfl, by decide +kernel, by decide +kernel⟩

def F_ratio  : FS := fun as k => ∃ (t b : Int), as = [.val (.int t), .val (.int b)] ∧ (b ≠ 0) ∧ (intBits b ≤ 9000) ∧ k (.val (dR (nrat t b)))
theorem ok_ratio {P : Program} {w : World} {K : PySem.W.Frag} {mg : Str → Option Value} {base : Heap} (B : Blts mg)   (F : Fnd K mg "ratio" s_ratio ["top", "bottom"]) (c_greatest_divisor : Cal P w K mg base "greatest_divisor" ["one", "other"] 2 (Con K 2 F_greatest_divisor)) :
    Cal P w K mg base "ratio" ["top", "bottom"] 3 (Con K 2 F_ratio) := by
  refine def3 (lv := 2) F sc_ratio rfl (fun f cdv A outer s H E hr => ⟨_, (s_cons (s_if (t_cmp (f := fun i j => decide (i = j)) op_eqI (v3 1) e_int (nomark _)) (s_one s_never) s_nil) (s_cons (s_set (i := 2) sc_ratio.nd rfl (Or.inl rfl) (e_call c_greatest_divisor hr (by rfl) (a_val (v3 0) (a_val (v3 1) a_nil)))) (s_cons (s_if (t_cmp (f := fun i j => decide (i < j)) op_lt (v3 1) e_int (nomark _)) (s_one (s_set (i := 2) sc_ratio.nd rfl (Or.inl rfl) (e_neg (v3 2)))) s_nil) (s_one (s_ret (e_tup (l_cons (e_fdiv (v3 0) (v3 2)) (l_cons (e_fdiv (v3 1) (v3 2)) l_nil)))))))), ?_⟩)
  rintro as k hl ⟨t, b, rfl, hb, bb, hk⟩
  refine at3 (r := [.val (.int t), .val (.int b), .no]) rfl ?_
  walk_at "wd"
  refine iteD (fun g => absurd g hb) (fun _ => ?_)
  walk_at "w"
  refine ⟨_, _, rfl, ?_⟩
  dsimp only [fzR]
  have gp := gcd_pos (t := t) hb
  have gb := gcd_bits (a := t) hb bb
  refine mid4 (fun ρ => ρ = [.val (.int t), .val (.int b), .val (.int (gsg t b))]) ?_ (fun N kk => ?_)
  · rintro ρ rfl
    have d0 : gsg t b ≠ 0 := by unfold gsg; split <;> omega
    have db : intBits (gsg t b) ≤ 9000 := by
      unfold gsg
      split
      · exact intBits_neg_le gb
      · exact gb
    walk_at "w"
    exact hk
  · walk_at "wd"
    refine iteD (fun g => ?_) (fun g => ?_)
    · walk_at "w"
      refine kk _ ?_
      unfold gsg
      rw [if_pos g]
      rfl
    · refine kk _ ?_
      unfold gsg
      rw [if_neg g]
      rfl

theorem sc_at : FnScope ["x", "y", "shared"] ["x", "y"] (defScope s_at) := ⟨rfl, rfl, rfl, by decide +kernel, rfl, by decide +kernel, by decide +kernel⟩

def F_at  : FS := fun as k => ∃ (x y u v : Int), as = [.val (dR (x, y)), .val (dR (u, v))] ∧ (Low x y) ∧ (Low u v) ∧ (intBits x ≤ 4000) ∧ (intBits y ≤ 4000) ∧ (intBits u ≤ 4000) ∧ (intBits v ≤ 4000) ∧ k (.val (dP (npt (x * v) (u * y) (y * v))))
theorem ok_at {P : Program} {w : World} {K : PySem.W.Frag} {mg : Str → Option Value} {base : Heap} (B : Blts mg)   (F : Fnd K mg "at" s_at ["x", "y"]) (c_greatest_divisor : Cal P w K mg base "greatest_divisor" ["one", "other"] 2 (Con K 2 F_greatest_divisor)) :
    Cal P w K mg base "at" ["x", "y"] 3 (Con K 2 F_at) := by
  refine def3 (lv := 2) F sc_at rfl (fun f cdv A outer s H E hr => ⟨_, (s_cons (s_set (i := 2) sc_at.nd rfl (Or.inl rfl) (e_call c_greatest_divisor hr (by rfl) (a_val (e_ix (v3 0) e_int (fun _ _ => rfl)) (a_val (e_ix (v3 1) e_int (fun _ _ => rfl)) a_nil)))) (s_one (s_ret (e_tup (l_cons (e_mul (e_ix (v3 0) e_int (fun _ _ => rfl)) (e_fdiv (e_ix (v3 1) e_int (fun _ _ => rfl)) (v3 2))) (l_cons (e_mul (e_ix (v3 1) e_int (fun _ _ => rfl)) (e_fdiv (e_ix (v3 0) e_int (fun _ _ => rfl)) (v3 2))) (l_cons (e_mul (e_fdiv (e_ix (v3 0) e_int (fun _ _ => rfl)) (v3 2)) (e_ix (v3 1) e_int (fun _ _ => rfl))) l_nil))))))), ?_⟩)
  rintro as k hl ⟨x, y, u, v, rfl, l1, l2, bx, bY, bu, bv, hk⟩
  refine at3 (r := [.val (dR (x, y)), .val (dR (u, v)), .no]) rfl ?_
  have v0 : v ≠ 0 := Int.ne_of_gt l2.1
  have sp := gcd_pos (t := y) (b := v) v0
  have sb := gcd_bits (a := y) (b := v) v0 bv
  rw [← at_low l1 l2] at hk
  walk_at "w"
  refine ⟨_, _, rfl, ?_⟩
  dsimp only [fzR]
  generalize ((Int.gcd y v : Nat) : Int) = s at *
  have b1 : intBits (v.fdiv s) ≤ 4000 := bits_of_abs (natAbs_fdiv_le _ _) bv
  have b2 : intBits (y.fdiv s) ≤ 4000 := bits_of_abs (natAbs_fdiv_le _ _) bY
  walk_at "w"
  exact hk

theorem sc_show_whole : FnScope ["number", "parts", "rest", "part"] ["number"] (defScope s_show_whole) := ⟨rfl, rfl, rfl, by decide +kernel, rfl, by decide +kernel, by decide +kernel⟩

def F_show_whole  : FS := fun as k => ∃ (n : Int), as = [.val (.int n)] ∧ (n.natAbs < 1000000000000000000000000000000) ∧ k (.val (.str (S (wl n))))
theorem ok_show_whole {P : Program} {w : World} {K : PySem.W.Frag} {mg : Str → Option Value} {base : Heap} (B : Blts mg)  {tGREAT : Tok} (G_GREAT : mg "GREAT" = some (.int 10000000000000000000000000000000000000000000000000000000000000000 tGREAT))  (F : Fnd K mg "show_whole" s_show_whole ["number"])  :
    Cal P w K mg base "show_whole" ["number"] 2 (Con K 1 F_show_whole) := by
  refine def3 (lv := 1) F sc_show_whole rfl (fun f cdv A outer s H E hr => ⟨_, (s_cons (s_setO (i := 1) sc_show_whole.nd rfl (Or.inl rfl) (o_lst l_nil)) (s_cons (s_set (i := 2) sc_show_whole.nd rfl (Or.inl rfl) (e_abs (v3 0) (by rfl) B.abs_)) (s_cons (s_while PassesOwn.never (t_cmp (f := fun i j => decide (j ≤ i)) op_ge (v3 2) (e_glbI G_GREAT (by rfl)) (nomark _)) ss_never) (s_cons (s_app 1 (e_strI (v3 2) (by rfl) B.str_)) (s_fz 1 (s_one (s_ret (e_addS (e_ifE (t_cmp (f := fun i j => decide (i < j)) op_lt (v3 0) e_int (nomark _)) e_str e_str) (e_join e_str (o_rev (v3 1) (e_neg e_int))))))))))), ?_⟩)
  rintro as k hl ⟨n, rfl, hn, hk⟩
  refine at3 (r := [.val (.int n), .no, .no, .no]) rfl ?_
  walk_at "wd"
  refine ⟨fun m ρ => ρ = [.val (.int n), .own (.l []), .val (.int (if n < 0 then -n else n)), .no], ⟨0, rfl⟩, ?_⟩
  rintro m ρ rfl
  walk_at "wd"
  refine iteD (fun g => ?_) (fun g => ?_)
  · exfalso
    split at g <;> omega
  have ea : (if n < 0 then -n else n).natAbs = n.natAbs := by split <;> omega
  have e0 : 0 ≤ (if n < 0 then -n else n) := by split <;> omega
  have es := str_num _ e0
  rw [ea] at es
  have hL := fg_le hn
  refine ⟨_, rfl, _, rfl, _, rfl, log2_lt (by rw [ea]; exact hn), by decide, ?_⟩
  refine ⟨_, rfl, ?_⟩
  rw [es]
  refine ⟨_, rfl, _, _, rfl, rfl, _, rfl, iteD (fun g => ?_) (fun g => ?_)⟩
  · have e : Str.ofString "-" ++ Txt.join (Str.ofString "") [S (fg n.natAbs)] = S (wl n) := by rw [s_none, s_dash, join_one, ← wl_cat, if_pos g]
    refine ⟨_, rfl, _, rfl, _, rfl, rfl, _, rfl, [S (fg n.natAbs)], rfl, join_ok _ (by rw [S_len]; omega), _, _, rfl, rfl, ?_, ?_⟩
    · rw [s_none, join_one, S_len]
      exact Nat.le_trans (show 1 + (fg n.natAbs).length ≤ 1000 by omega) (by decide)
    · rw [e]; exact hk
  · have e : Str.ofString "" ++ Txt.join (Str.ofString "") [S (fg n.natAbs)] = S (wl n) := by rw [s_none, join_one, ← wl_cat, if_neg g]
    refine ⟨_, rfl, _, rfl, _, rfl, rfl, _, rfl, [S (fg n.natAbs)], rfl, join_ok _ (by rw [S_len]; omega), _, _, rfl, rfl, ?_, ?_⟩
    · rw [s_none, join_one, S_len]
      exact Nat.le_trans (show 0 + (fg n.natAbs).length ≤ 1000 by omega) (by decide)
    · rw [e]; exact hk

theorem sc_show_ratio : FnScope ["one", "top", "bottom"] ["one"] (defScope s_show_ratio) := ⟨rfl, rfl, rfl, by decide +kernel, rfl, by decide +kernel, by decide +kernel⟩

def F_show_ratio  : FS := fun as k => ∃ (x y : Int), as = [.val (dR (x, y))] ∧ (x.natAbs < 1000000000000000000000000000000) ∧ (y.natAbs < 1000000000000000000000000000000) ∧ k (.val (.str (S (rl x y))))
theorem ok_show_ratio {P : Program} {w : World} {K : PySem.W.Frag} {mg : Str → Option Value} {base : Heap} (B : Blts mg)   (F : Fnd K mg "show_ratio" s_show_ratio ["one"]) (c_show_whole : Cal P w K mg base "show_whole" ["number"] 2 (Con K 1 F_show_whole)) :
    Cal P w K mg base "show_ratio" ["one"] 3 (Con K 1 F_show_ratio) := by
  refine def3 (lv := 2) F sc_show_ratio rfl (fun f cdv A outer s H E hr => ⟨_, (s_cons (s_asg (v3 0) (g_tup (n := 2) rfl (gs_cons (g_name (i := 1) sc_show_ratio.nd rfl (Or.inl rfl)) (gs_cons (g_name (i := 2) sc_show_ratio.nd rfl (Or.inl rfl)) gs_nil)))) (s_cons (s_if (t_cmp (f := fun i j => decide (i = j)) op_eqI (v3 2) e_int (nomark _)) (s_one (s_ret (e_call c_show_whole hr (by rfl) (a_val (v3 1) a_nil)))) s_nil) (s_one (s_ret (e_f3 (e_call c_show_whole hr (by rfl) (a_val (v3 1) a_nil)) (e_call c_show_whole hr (by rfl) (a_val (v3 2) a_nil))))))), ?_⟩)
  rintro as k hl ⟨x, y, rfl, hx, hy, hk⟩
  refine at3 (r := [.val (dR (x, y)), .no, .no]) rfl ?_
  walk_at "wd"
  refine ⟨_, _, rfl, _, _, rfl, rfl, ?_⟩
  have s1 := wl_len hx
  have s2 := wl_len hy
  refine ⟨_, rfl, _, _, rfl, rfl, _, rfl, iteD (fun g => ?_) (fun g => ?_)⟩
  · refine ⟨_, rfl, rfl, x, rfl, hx, ?_⟩
    have e : rl x y = wl x := by unfold rl; rw [if_pos g]
    rw [e] at hk
    exact hk
  refine ⟨_, rfl, rfl, x, rfl, hx, _, rfl, ?_, _, rfl, rfl, y, rfl, hy, _, rfl, ?_, ?_⟩
  · exact Nat.le_trans (show (wl x).length + 1 ≤ 1000 by omega) (by decide)
  · exact Nat.le_trans (show (wl x).length + 1 + (wl y).length ≤ 1000 by omega) (by decide)
  have e : S (wl x) ++ Str.ofString "/" ++ S (wl y) = S (rl x y) := by
    rw [s_stroke, S_app, S_app]
    unfold rl
    rw [if_neg g, List.append_assoc]
    rfl
  rw [e]
  exact hk

theorem sc_is_whole : FnScope ["text", "sign"] ["text"] (defScope s_is_whole) := ⟨rfl, rfl, rfl, by decide +kernel, rfl, by decide +kernel, by decide +kernel⟩

def F_is_wholeA  : FS := fun as k => ∃ (l : List Nat), as = [.val (.str (S l))] ∧ (∀ c ∈ l, c < 128) ∧ (l.length ≤ 1000) ∧ k (.val (.bl (isW l)))
theorem ok_is_wholeA {P : Program} {w : World} {K : PySem.W.Frag} {mg : Str → Option Value} {base : Heap} (B : Blts mg)  {tFIGURES : Tok} (G_FIGURES : mg "FIGURES" = some (.str (PySem.Str.ofString "0123456789") tFIGURES))  {tMOST_FIGURES : Tok} (G_MOST_FIGURES : mg "MOST_FIGURES" = some (.int 30 tMOST_FIGURES))  (F : Fnd K mg "is_whole" s_is_whole ["text"])  :
    Cal P w K mg base "is_whole" ["text"] 2 (Con K 1 F_is_wholeA) := by
  refine def3 (lv := 1) F sc_is_whole rfl (fun f cdv A outer s H E hr => ⟨_, (s_cons (s_if (t_not (t_chain (f := fun i j => decide (i ≤ j)) (g := fun i j => decide (i ≤ j)) op_le op_le e_int (e_lenS (v3 0) (by rfl) B.len_) (e_glbI G_MOST_FIGURES (by rfl)))) (s_one (s_ret e_bl)) s_nil) (s_cons (s_for PassesOwn.never rfl (i_str (v3 0)) (g_name (i := 1) sc_is_whole.nd rfl (Or.inl rfl)) (s_one (s_if (t_ninS (v3 1) (e_glbS G_FIGURES (by rfl)) (by rfl)) (s_one (s_ret e_bl)) s_nil))) (s_one (s_ret (e_or (e_eq (hr.units) (v3 0) e_str (nomark _)) (e_one (e_ne (hr.units) (e_ixS (v3 0) e_int (fun _ _ => rfl)) e_str (nomark _)))))))), ?_⟩)
  rintro as k hl ⟨l, rfl, h8, hl, hk⟩
  refine at3 (r := [.val (.str (S l)), .no]) rfl ?_
  walk_at "wd"
  refine ⟨by rw [S_len]; exact Nat.le_trans hl (by decide), _, _, rfl, rfl, ?_⟩
  rw [S_len]
  by_cases h1 : 1 ≤ l.length
  rotate_left
  · refine iteD (fun g => absurd g (by omega)) (fun _ => iteT3 rfl ?_)
    rw [isW_short h1] at hk
    exact hk
  refine iteD (fun _ => ?_) (fun g => absurd (by omega) g)
  refine ⟨_, rfl, ?_⟩
  by_cases h2 : l.length ≤ 30
  rotate_left
  · refine iteDn (fun g => ?_) (fun g => absurd g (by omega))
    rw [isW_long h2] at hk
    exact hk
  refine iteDn (fun g => absurd (by omega) g) (fun _ => ?_)
  refine ⟨_, rfl, _, rfl, ?_, ?_⟩
  · rw [Array.all_eq_true']
    intro c hc
    exact decide_eq_true (h8 c (by simpa [S] using hc))
  rw [S_list]
  refine forR_map (f := fun c => D.str ⟨#[c]⟩) (done := []) (fun ds ρ => (∃ v, ρ = [.val (.str (S l)), v]) ∧ ∀ c ∈ ds, 48 ≤ c ∧ c ≤ 57) ⟨⟨_, rfl⟩, fun c hc => absurd hc (by simp)⟩ ?_ ?_
  · rintro pre c rest ρ eq ⟨⟨v, rfl⟩, hp⟩ N kk
    have hc : c ∈ l := by
      have : c ∈ pre ++ c :: rest := by simp
      rw [← eq] at this
      simpa using this
    refine ⟨_, rfl, _, _, rfl, rfl, _, rfl, ?_⟩
    rw [PySem.StrLaws.found_one]
    refine iteDn (fun g => ?_) (fun g => kk _ ⟨⟨_, rfl⟩, fun d hd => ?_⟩)
    · rw [isW_odd hc (fun z => g (fig_mem z))] at hk
      exact hk
    · rcases List.mem_append.mp hd with hd | hd
      · exact hp d hd
      · rw [List.mem_singleton.mp hd]
        exact fig_iff g
  rintro ρ ⟨⟨v, rfl⟩, hp⟩
  have hall : ∀ c ∈ l, 48 ≤ c ∧ c ≤ 57 := fun c hc => hp c (by simpa using hc)
  rw [isW_last h1 h2 hall] at hk
  refine ⟨_, rfl, .S, rfl, rfl, by decide, _, rfl, ?_⟩
  rw [if_neg Bool.false_ne_true, eq_nought]
  refine iteD (fun g => ?_) (fun g => ?_)
  · rw [decide_eq_true g, Bool.true_or] at hk
    exact hk
  rw [decide_eq_false g, Bool.false_or] at hk
  refine ⟨_, rfl, _, 0, l.headD 0, rfl, rfl, by rw [S_len]; exact Nat.le_trans h2 (by decide), at_head h1, .S, rfl, rfl, by decide, ?_⟩
  show k (.val (.bl (!eqD (D.str (S [l.headD 0])) (D.str (Str.ofString "0")))))
  rw [eq_nought]
  have e : (!decide ([l.headD 0] = [48])) = decide (l.headD 0 ≠ 48) := by simp
  rw [e]
  exact hk

theorem sc_read_whole : FnScope ["text"] ["text"] (defScope s_read_whole) := ⟨rfl, rfl, rfl, by decide +kernel, rfl, by decide +kernel, by decide +kernel⟩

def F_read_wholeA  : FS := fun as k => ∃ (m : Nat), as = [.val (.str (S (fg m)))] ∧ (m < 1000000000000000000000000000000) ∧ k (.val (.int m))
theorem ok_read_wholeA {P : Program} {w : World} {K : PySem.W.Frag} {mg : Str → Option Value} {base : Heap} (B : Blts mg)   (F : Fnd K mg "read_whole" s_read_whole ["text"]) (c_is_whole : Cal P w K mg base "is_whole" ["text"] 2 (Con K 1 F_is_wholeA)) :
    Cal P w K mg base "read_whole" ["text"] 3 (Con K 1 F_read_wholeA) := by
  refine def3 (lv := 2) F sc_read_whole rfl (fun f cdv A outer s H E hr => ⟨_, (s_cons (s_if (t_not (t_val (e_call c_is_whole hr (by rfl) (a_val (v3 0) a_nil)))) (s_one s_never) s_nil) (s_one (s_ret (e_intS (v3 0) (by rfl) B.int_)))), ?_⟩)
  rintro as k hl ⟨m, rfl, hm, hk⟩
  refine at3 (r := [.val (.str (S (fg m)))]) rfl ?_
  have l2 := fg_le hm
  refine ⟨_, rfl, rfl, fg m, rfl, fun c hc => Nat.lt_of_le_of_lt (fg_dig m c hc).2 (by decide), Nat.le_trans l2 (by decide), _, rfl, ?_⟩
  rw [isW_of hm]
  exact iteF3 rfl ⟨_, rfl, _, _, rfl, fg_reads hm, Nat.le_trans (fg_le hm) (by decide), hk⟩


def G_read_wholeX : List D → Prop := fun ds => ∃ (l : List Nat), ds = [.str (S l)] ∧ (∀ c ∈ l, c < 128) ∧ l.length ≤ 1000 ∧ isW l = false
theorem ok_read_wholeX {P : Program} {w : World} {K : PySem.W.Frag} {mg : Str → Option Value} {base : Heap} (B : Blts mg)  {cNoText : Addr} (Zi : PySem.W.excIn K cNoText [.type "ValueError", .type "Exception", .type "BaseException", .type "object"] "ValueError.__new__" = true) (mNoText : mg "NoText" = some (.ref cNoText)) (F : Fnd K mg "read_whole" s_read_whole ["text"]) (c_is_whole : Cal P w K mg base "is_whole" ["text"] 2 (Con K 1 F_is_wholeA)) :
    CalM P w K mg base "read_whole" ["text"] 3 cNoText (prT K G_read_wholeX) := by
  refine def3M (lv := 2) F sc_read_whole rfl (fun ds h => by obtain ⟨l, rfl, h8, hl, hw⟩ := h; rfl) (fun f cdv A outer s H E hr => ⟨_, (ssr_cons (sr_if (t_not (t_val (e_call c_is_whole hr (by rfl) (a_val (v3 0) a_nil)))) (ssr_one (sr_raise Zi (by rfl) mNoText)) (ssr_of s_nil)) (ssr_one (sr_of (s_ret (e_intS (v3 0) (by rfl) B.int_))))), ?_⟩)
  rintro ds ⟨l, rfl, h8, hl, hw⟩
  refine at3 (r := [.val (.str (S l))]) rfl ?_
  refine ⟨_, rfl, rfl, l, rfl, h8, hl, _, rfl, ?_⟩
  rw [hw]
  exact iteT3 rfl trivial

theorem sc_read_ratio : FnScope ["text", "sign", "bare", "above", "stroke", "below", "top", "bottom", "told"] ["text"] (defScope s_read_ratio) := ⟨rfl, rfl, rfl, by decide +kernel, rfl, by decide +kernel, by decide +kernel⟩

def F_read_ratio  : FS := fun as k => ∃ (x y : Int), as = [.val (.str (S (rl x y)))] ∧ (Low x y) ∧ (x.natAbs < 1000000000000000000000000000000) ∧ (y.natAbs < 1000000000000000000000000000000) ∧ k (.val (dR (x, y)))
theorem ok_read_ratio {P : Program} {w : World} {K : PySem.W.Frag} {mg : Str → Option Value} {base : Heap} (B : Blts mg)   (F : Fnd K mg "read_ratio" s_read_ratio ["text"]) (c_read_whole : Cal P w K mg base "read_whole" ["text"] 3 (Con K 1 F_read_wholeA)) (c_ratio : Cal P w K mg base "ratio" ["top", "bottom"] 3 (Con K 2 F_ratio)) (c_show_ratio : Cal P w K mg base "show_ratio" ["one"] 3 (Con K 1 F_show_ratio)) :
    Cal P w K mg base "read_ratio" ["text"] 4 (Con K 1 F_read_ratio) := by
  refine def3 (lv := 3) F sc_read_ratio rfl (fun f cdv A outer s H E hr => ⟨_, (s_cons (s_asg (e_ifE (t_val (e_start (v3 0) e_str)) (e_tup (l_cons (e_neg e_int) (l_cons (e_cut1 (v3 0)) l_nil))) (e_tup (l_cons e_int (l_cons (v3 0) l_nil)))) (g_tup (n := 2) rfl (gs_cons (g_name (i := 1) sc_read_ratio.nd rfl (Or.inl rfl)) (gs_cons (g_name (i := 2) sc_read_ratio.nd rfl (Or.inl rfl)) gs_nil)))) (s_cons (s_asg (e_part (v3 2) e_str) (g_tup (n := 3) rfl (gs_cons (g_name (i := 3) sc_read_ratio.nd rfl (Or.inl rfl)) (gs_cons (g_name (i := 4) sc_read_ratio.nd rfl (Or.inl rfl)) (gs_cons (g_name (i := 5) sc_read_ratio.nd rfl (Or.inl rfl)) gs_nil))))) (s_cons (s_set (i := 6) sc_read_ratio.nd rfl (Or.inl rfl) (e_call c_read_whole hr (by rfl) (a_val (v3 3) a_nil))) (s_cons (s_set (i := 7) sc_read_ratio.nd rfl (Or.inl rfl) (e_ifE (t_truS (v3 4)) (e_call c_read_whole hr (by rfl) (a_val (v3 5) a_nil)) e_int)) (s_cons (s_if (t_cmp (f := fun i j => decide (i = j)) op_eqI (v3 7) e_int (nomark _)) (s_one s_never) s_nil) (s_cons (s_set (i := 8) sc_read_ratio.nd rfl (Or.inl rfl) (e_call c_ratio hr (by rfl) (a_val (e_mul (v3 1) (v3 6)) (a_val (v3 7) a_nil)))) (s_cons (s_if (t_ne (hr.units) (e_call c_show_ratio hr (by rfl) (a_val (v3 8) a_nil)) (v3 0) (nomark _)) (s_one s_never) s_nil) (s_one (s_ret (v3 8)))))))))), ?_⟩)
  rintro as k hl ⟨x, y, rfl, l, hx, hy, hk⟩
  refine at3 (r := [.val (.str (S (rl x y))), .no, .no, .no, .no, .no, .no, .no, .no]) rfl ?_
  have y0 : 0 < y := l.1
  have eT : (10 : Int) ^ 30 = 1000000000000000000000000000000 := rfl
  have sL := rl_len hx hy
  refine mid4 (fun ρ => ∃ (sg : Int) (a : Nat), ρ = [.val (.str (S (rl x y))), .val (.int sg), .val (.str (S (rl (a : Int) y))), .no, .no, .no, .no, .no, .no] ∧ (sg = 1 ∨ sg = -1) ∧ sg * a = x ∧ a = x.natAbs) ?_ (fun N kk => ?_)
  rotate_left
  · refine ⟨_, rfl, _, rfl, _, rfl, _, rfl, ?_⟩
    by_cases h : x < 0
    · have ec : cut1 (S (rl x y)) = S (rl (-x) y) := by rw [rl_neg h]; exact cut1_cons _ _
      have e2 : -x = ((x.natAbs : Nat) : Int) := by omega
      refine iteT3 (by rw [rl_neg h]; exact start_yes _ _) ?_
      refine ⟨_, rfl, _, rfl, _, rfl, ?_, ?_⟩
      · rw [ec, e2]
        exact Nat.le_trans (rl_len (x := ((x.natAbs : Nat) : Int)) (by omega) hy) (by decide)
      · rw [ec, e2]
        exact ⟨(show 2 ≤ sizeLine by decide), _, rfl, rfl, _, _, rfl, _, _, rfl, rfl, kk _ ⟨-1, x.natAbs, rfl, .inr rfl, by omega, rfl⟩⟩
    · have e2 : ((x.natAbs : Nat) : Int) = x := by omega
      refine iteF3 (start_no (rl_head (by omega))) ?_
      exact ⟨_, rfl, (show 2 ≤ sizeLine by decide), _, rfl, rfl, _, _, rfl, _, _, rfl, rfl, kk _ ⟨1, x.natAbs, by rw [e2]; rfl, .inl rfl, by omega, rfl⟩⟩
  rintro ρ ⟨sg, a, rfl, hs, hsa, ha⟩
  have hA : a < 1000000000000000000000000000000 := by omega
  have hA' : ((a : Nat) : Int).natAbs < 1000000000000000000000000000000 := by omega
  have ew : wl (a : Int) = fg a := wl_pos (by omega)
  have ey : wl y = fg y.natAbs := wl_pos (by omega)
  have hL := rl_len hA' hy
  refine mid4 (fun ρ => ∃ st be : Str, ρ = [.val (.str (S (rl x y))), .val (.int sg), .val (.str (S (rl (a : Int) y))), .val (.str (S (fg a))), .val (.str st), .val (.str be), .no, .no, .no] ∧ ((y = 1 ∧ st = S []) ∨ (st = S [47] ∧ be = S (fg y.natAbs)))) ?_ (fun N kk => ?_)
  rotate_left
  · refine ⟨_, rfl, _, rfl, _, rfl, rfl, Nat.le_trans hL (by decide), ?_⟩
    rw [s_stroke]
    by_cases h : y = 1
    · have e : rl (a : Int) y = fg a := by unfold rl; rw [if_pos h, ew]
      rw [e, part_none (fg_free (by decide))]
      refine ⟨_, rfl, rfl, _, _, rfl, _, _, rfl, _, _, rfl, rfl, kk _ ⟨S [], S [], ?_, .inl ⟨h, rfl⟩⟩⟩
      rw [e]
      rfl
    · have e : rl (a : Int) y = fg a ++ 47 :: fg y.natAbs := by unfold rl; rw [if_neg h, ew, ey]
      rw [e, part_some (fg_free (by decide))]
      refine ⟨_, rfl, rfl, _, _, rfl, _, _, rfl, _, _, rfl, rfl, kk _ ⟨S [47], S (fg y.natAbs), ?_, .inr ⟨rfl, rfl⟩⟩⟩
      rw [e]
      rfl
  rintro ρ ⟨st, be, rfl, hst⟩
  refine ⟨_, rfl, rfl, a, rfl, hA, ?_⟩
  dsimp only [fzR]
  refine mid4 (fun ρ => ρ = [.val (.str (S (rl x y))), .val (.int sg), .val (.str (S (rl (a : Int) y))), .val (.str (S (fg a))), .val (.str st), .val (.str be), .val (.int a), .val (.int y), .no]) ?_ (fun N kk => ?_)
  rotate_left
  · rcases hst with ⟨h1, rfl⟩ | ⟨rfl, rfl⟩
    · refine ⟨_, rfl, _, rfl, by decide, iteF3 rfl ?_⟩
      refine kk _ ?_
      rw [h1]
      rfl
    · refine ⟨_, rfl, _, rfl, by decide, iteT3 rfl ?_⟩
      refine ⟨_, rfl, rfl, y.natAbs, rfl, hy, kk _ ?_⟩
      have e : ((y.natAbs : Nat) : Int) = y := by omega
      rw [e]
      rfl
  rintro ρ rfl
  refine ⟨_, rfl, _, _, rfl, rfl, _, rfl, iteD (fun g => absurd g (by omega)) (fun _ => ?_)⟩
  have ba : intBits (a : Int) ≤ 100 := bits30 (by omega) (by omega)
  have bs : intBits sg ≤ 100 := bits30 (by omega) (by omega)
  have by' : intBits y ≤ 100 := bits30 (by omega) (by omega)
  refine ⟨_, rfl, _, rfl, _, _, rfl, rfl, ⟨by omega, by omega⟩, _, rfl, rfl, _, _, rfl, by omega, by omega, ?_⟩
  dsimp only
  rw [hsa, nrat_eq l (by omega) rfl]
  refine ⟨_, rfl, rfl, x, y, rfl, hx, hy, _, rfl, .S, rfl, rfl, by decide, _, rfl, neIf (fun h => absurd rfl h) (fun _ => ?_)⟩
  exact ⟨_, rfl, hk⟩


def G_read_ratioX : List D → Prop := fun ds => ∃ (l : List Nat), ds = [.str (S l)] ∧ (∀ c ∈ l, c < 128) ∧ l.length ≤ 1000 ∧ ¬ OkR l
theorem ok_read_ratioX {P : Program} {w : World} {K : PySem.W.Frag} {mg : Str → Option Value} {base : Heap} (B : Blts mg)  {cNoText : Addr} (Zi : PySem.W.excIn K cNoText [.type "ValueError", .type "Exception", .type "BaseException", .type "object"] "ValueError.__new__" = true) (mNoText : mg "NoText" = some (.ref cNoText)) (F : Fnd K mg "read_ratio" s_read_ratio ["text"]) (c_read_whole : Cal P w K mg base "read_whole" ["text"] 3 (Con K 1 F_read_wholeA)) (c_ratio : Cal P w K mg base "ratio" ["top", "bottom"] 3 (Con K 2 F_ratio)) (c_show_ratio : Cal P w K mg base "show_ratio" ["one"] 3 (Con K 1 F_show_ratio)) (x_read_whole : CalM P w K mg base "read_whole" ["text"] 3 cNoText (prT K G_read_wholeX)) :
    CalM P w K mg base "read_ratio" ["text"] 4 cNoText (prT K G_read_ratioX) := by
  refine def3M (lv := 3) F sc_read_ratio rfl (fun ds h => by obtain ⟨l, rfl, h8, hl, hno⟩ := h; rfl) (fun f cdv A outer s H E hr => ⟨_, (ssr_cons (sr_of (s_asg (e_ifE (t_val (e_start (v3 0) e_str)) (e_tup (l_cons (e_neg e_int) (l_cons (e_cut1 (v3 0)) l_nil))) (e_tup (l_cons e_int (l_cons (v3 0) l_nil)))) (g_tup (n := 2) rfl (gs_cons (g_name (i := 1) sc_read_ratio.nd rfl (Or.inl rfl)) (gs_cons (g_name (i := 2) sc_read_ratio.nd rfl (Or.inl rfl)) gs_nil))))) (ssr_cons (sr_of (s_asg (e_part (v3 2) e_str) (g_tup (n := 3) rfl (gs_cons (g_name (i := 3) sc_read_ratio.nd rfl (Or.inl rfl)) (gs_cons (g_name (i := 4) sc_read_ratio.nd rfl (Or.inl rfl)) (gs_cons (g_name (i := 5) sc_read_ratio.nd rfl (Or.inl rfl)) gs_nil)))))) (ssr_cons (sr_set (i := 6) sc_read_ratio.nd rfl (Or.inl rfl) (er_or (er_of (e_call c_read_whole hr (by rfl) (a_val (v3 3) a_nil))) (er_callM x_read_whole hr passM (fun z => z) (by rfl) (l_cons (v3 3) l_nil)))) (ssr_cons (sr_set (i := 7) sc_read_ratio.nd rfl (Or.inl rfl) (er_ifE (t_truS (v3 4)) (er_or (er_of (e_call c_read_whole hr (by rfl) (a_val (v3 5) a_nil))) (er_callM x_read_whole hr passM (fun z => z) (by rfl) (l_cons (v3 5) l_nil))) (er_of e_int))) (ssr_cons (sr_if (t_cmp (f := fun i j => decide (i = j)) op_eqI (v3 7) e_int (nomark _)) (ssr_one (sr_raise Zi (by rfl) mNoText)) (ssr_of s_nil)) (ssr_cons (sr_of (s_set (i := 8) sc_read_ratio.nd rfl (Or.inl rfl) (e_call c_ratio hr (by rfl) (a_val (e_mul (v3 1) (v3 6)) (a_val (v3 7) a_nil))))) (ssr_cons (sr_if (t_ne (hr.units) (e_call c_show_ratio hr (by rfl) (a_val (v3 8) a_nil)) (v3 0) (nomark _)) (ssr_one (sr_raise Zi (by rfl) mNoText)) (ssr_of s_nil)) (ssr_one (sr_of (s_ret (v3 8))))))))))), ?_⟩)
  rintro ds ⟨l, rfl, h8, hl, hno⟩
  refine at3 (r := [.val (.str (S l)), .no, .no, .no, .no, .no, .no, .no, .no]) rfl ?_
  have eT : (10 : Int) ^ 30 = 1000000000000000000000000000000 := rfl
  refine mid4 (fun ρ => ∃ (sg : Int) (m : List Nat), ρ = [.val (.str (S l)), .val (.int sg), .val (.str (S m)), .no, .no, .no, .no, .no, .no] ∧ (sg = 1 ∨ sg = -1) ∧ (∀ c ∈ m, c < 128) ∧ m.length ≤ 1000) ?_ (fun N kk => ?_)
  rotate_left
  · refine ⟨_, rfl, _, rfl, _, rfl, _, rfl, ?_⟩
    by_cases h : l[0]? = some 45
    · cases l with
      | nil => cases h
      | cons c m =>
        have hc : c = 45 := by simpa using h
        subst hc
        have ec : cut1 (S (45 :: m)) = S m := cut1_cons _ _
        refine iteT3 (start_yes _ _) ?_
        refine ⟨_, rfl, _, rfl, _, rfl, ?_, ?_⟩
        · rw [ec, S_len]
          rw [List.length_cons] at hl
          exact Nat.le_trans (show m.length ≤ 1000 by omega) (by decide)
        · rw [ec]
          exact ⟨(show 2 ≤ sizeLine by decide), _, rfl, rfl, _, _, rfl, _, _, rfl, rfl, kk _ ⟨-1, m, rfl, .inr rfl, fun c hc => h8 c (List.mem_cons_of_mem _ hc), by rw [List.length_cons] at hl; omega⟩⟩
    · refine iteF3 (start_no h) ?_
      exact ⟨_, rfl, (show 2 ≤ sizeLine by decide), _, rfl, rfl, _, _, rfl, _, _, rfl, rfl, kk _ ⟨1, l, rfl, .inl rfl, h8, hl⟩⟩
  rintro ρ ⟨sg, m, rfl, hs, m8, ml⟩
  refine mid4 (fun ρ => ∃ (a b st : List Nat), ρ = [.val (.str (S l)), .val (.int sg), .val (.str (S m)), .val (.str (S a)), .val (.str (S st)), .val (.str (S b)), .no, .no, .no] ∧ (∀ c ∈ a, c < 128) ∧ (∀ c ∈ b, c < 128) ∧ a.length ≤ 1000 ∧ b.length ≤ 1000 ∧ (st = [] ∨ st = [47])) ?_ (fun N kk => ?_)
  rotate_left
  · refine ⟨_, rfl, _, rfl, _, rfl, rfl, Nat.le_trans ml (by decide), ?_⟩
    rw [s_stroke]
    rcases cut_at (l := m) (c := 47) with ⟨a, b, rfl, hn⟩ | hn
    · rw [part_some hn]
      rw [List.length_append, List.length_cons] at ml
      exact ⟨_, rfl, rfl, _, _, rfl, _, _, rfl, _, _, rfl, rfl, kk _ ⟨a, b, [47], rfl, fun c hc => m8 c (List.mem_append_left _ hc), fun c hc => m8 c (List.mem_append_right _ (List.mem_cons_of_mem _ hc)), by omega, by omega, .inr rfl⟩⟩
    · rw [part_none hn]
      exact ⟨_, rfl, rfl, _, _, rfl, _, _, rfl, _, _, rfl, rfl, kk _ ⟨m, [], [], rfl, m8, fun c hc => absurd hc (by simp), ml, by simp, .inl rfl⟩⟩
  rintro ρ ⟨a, b, st, rfl, a8, b8, al, bl, hst⟩
  cases hw : isW a with
  | false => exact .inr ⟨_, rfl, a, rfl, a8, al, hw⟩
  | true =>
  obtain ⟨n, hn, rfl⟩ := isW_fg hw
  refine .inl ⟨_, rfl, rfl, n, rfl, hn, ?_⟩
  dsimp only [fzR]
  refine mid4 (fun ρ => ∃ q : Nat, ρ = [.val (.str (S l)), .val (.int sg), .val (.str (S m)), .val (.str (S (fg n))), .val (.str (S st)), .val (.str (S b)), .val (.int n), .val (.int q), .no] ∧ q < 1000000000000000000000000000000) ?_ (fun N kk => ?_)
  rotate_left
  · rcases hst with rfl | rfl
    · exact ⟨_, rfl, _, rfl, by decide, iteF3 rfl (kk _ ⟨1, rfl, by decide⟩)⟩
    · refine ⟨_, rfl, _, rfl, by decide, iteT3 rfl ?_⟩
      cases hw2 : isW b with
      | false => exact .inr ⟨_, rfl, b, rfl, b8, bl, hw2⟩
      | true =>
      obtain ⟨q, hq, rfl⟩ := isW_fg hw2
      exact .inl ⟨_, rfl, rfl, q, rfl, hq, kk _ ⟨q, rfl, hq⟩⟩
  rintro ρ ⟨q, rfl, hq⟩
  refine ⟨_, rfl, _, _, rfl, rfl, _, rfl, iteD (fun _ => trivial) (fun q0 => ?_)⟩
  have ba : intBits (n : Int) ≤ 100 := bits30 (by omega) (by omega)
  have bs : intBits sg ≤ 100 := bits30 (by omega) (by omega)
  have bq : intBits (q : Int) ≤ 100 := bits30 (by omega) (by omega)
  refine ⟨_, rfl, _, rfl, _, _, rfl, rfl, ⟨by omega, by omega⟩, _, rfl, rfl, _, _, rfl, by omega, by omega, ?_⟩
  dsimp only
  obtain ⟨lo, _, c1, c2⟩ := nrat_spec (t := sg * n) (b := q) (by omega)
  have cn : (sg * (n : Int)).natAbs = n := by rcases hs with rfl | rfl <;> omega
  generalize nrat (sg * n) q = r at *
  obtain ⟨x, y⟩ := r
  dsimp only at lo c1 c2
  have hx : x.natAbs < 1000000000000000000000000000000 := by omega
  have hy : y.natAbs < 1000000000000000000000000000000 := by omega
  refine ⟨_, rfl, rfl, x, y, rfl, hx, hy, _, rfl, .S, rfl, rfl, by decide, _, rfl, neIf (fun _ => trivial) (fun he => ?_)⟩
  exact absurd ⟨x, y, lo, hx, hy, (S_inj (D.str.inj he)).symm⟩ hno

theorem sc_read_point : FnScope ["text", "right", "comma", "up"] ["text"] (defScope s_read_point) := ⟨rfl, rfl, rfl, by decide +kernel, rfl, by decide +kernel, by decide +kernel⟩

def F_read_point  : FS := fun as k => ∃ (x y u v : Int), as = [.val (.str (S (rl x y ++ 44 :: rl u v)))] ∧ (Low x y) ∧ (Low u v) ∧ (x.natAbs < 1000000000000000000000000000000) ∧ (y.natAbs < 1000000000000000000000000000000) ∧ (u.natAbs < 1000000000000000000000000000000) ∧ (v.natAbs < 1000000000000000000000000000000) ∧ k (.val (dP (npt (x * v) (u * y) (y * v))))
theorem ok_read_point {P : Program} {w : World} {K : PySem.W.Frag} {mg : Str → Option Value} {base : Heap} (B : Blts mg)   (F : Fnd K mg "read_point" s_read_point ["text"]) (c_at : Cal P w K mg base "at" ["x", "y"] 3 (Con K 2 F_at)) (c_read_ratio : Cal P w K mg base "read_ratio" ["text"] 4 (Con K 1 F_read_ratio)) :
    Cal P w K mg base "read_point" ["text"] 5 (Con K 1 F_read_point) := by
  refine def3 (lv := 4) F sc_read_point rfl (fun f cdv A outer s H E hr => ⟨_, (s_cons (s_asg (e_part (v3 0) e_str) (g_tup (n := 3) rfl (gs_cons (g_name (i := 1) sc_read_point.nd rfl (Or.inl rfl)) (gs_cons (g_name (i := 2) sc_read_point.nd rfl (Or.inl rfl)) (gs_cons (g_name (i := 3) sc_read_point.nd rfl (Or.inl rfl)) gs_nil))))) (s_one (s_ret (e_call c_at hr (by rfl) (a_val (e_call c_read_ratio hr (by rfl) (a_val (v3 1) a_nil)) (a_val (e_call c_read_ratio hr (by rfl) (a_val (v3 3) a_nil)) a_nil)))))), ?_⟩)
  rintro as k hl ⟨x, y, u, v, rfl, l1, l2, hx, hy, hu, hv, hk⟩
  refine at3 (r := [.val (.str (S (rl x y ++ 44 :: rl u v))), .no, .no, .no]) rfl ?_
  walk_at "wd"
  have eT : (10 : Int) ^ 30 = 1000000000000000000000000000000 := rfl
  have s1 := rl_len hx hy
  have s2 := rl_len hu hv
  refine ⟨by rw [S_len, List.length_append, List.length_cons]; exact Nat.le_trans (show (rl x y).length + ((rl u v).length + 1) ≤ 1000 by omega) (by decide), ?_⟩
  rw [s_comma, part_some (rl_comma x y)]
  refine ⟨_, rfl, rfl, _, _, rfl, _, _, rfl, _, _, rfl, rfl, ?_⟩
  refine ⟨_, rfl, rfl, x, y, rfl, l1, hx, hy, _, rfl, rfl, u, v, rfl, l2, hu, hv, rfl, x, y, u, v, rfl, l1, l2, ?_, ?_, ?_, ?_, hk⟩
  · exact Nat.le_trans (bits30 (by omega) (by omega)) (by decide)
  · exact Nat.le_trans (bits30 (by omega) (by omega)) (by decide)
  · exact Nat.le_trans (bits30 (by omega) (by omega)) (by decide)
  · exact Nat.le_trans (bits30 (by omega) (by omega)) (by decide)


def G_read_pointX : List D → Prop := fun ds => ∃ (l : List Nat), ds = [.str (S l)] ∧ (∀ c ∈ l, c < 128) ∧ l.length ≤ 1000 ∧ ¬ OkP l
theorem ok_read_pointX {P : Program} {w : World} {K : PySem.W.Frag} {mg : Str → Option Value} {base : Heap} (B : Blts mg)  {cNoText : Addr} (Zi : PySem.W.excIn K cNoText [.type "ValueError", .type "Exception", .type "BaseException", .type "object"] "ValueError.__new__" = true) (mNoText : mg "NoText" = some (.ref cNoText)) (F : Fnd K mg "read_point" s_read_point ["text"]) (c_at : Cal P w K mg base "at" ["x", "y"] 3 (Con K 2 F_at)) (c_read_ratio : Cal P w K mg base "read_ratio" ["text"] 4 (Con K 1 F_read_ratio)) (x_read_ratio : CalM P w K mg base "read_ratio" ["text"] 4 cNoText (prT K G_read_ratioX)) :
    CalM P w K mg base "read_point" ["text"] 5 cNoText (prT K G_read_pointX) := by
  refine def3M (lv := 4) F sc_read_point rfl (fun ds h => by obtain ⟨l, rfl, h8, hl, hno⟩ := h; rfl) (fun f cdv A outer s H E hr => ⟨_, (ssr_cons (sr_of (s_asg (e_part (v3 0) e_str) (g_tup (n := 3) rfl (gs_cons (g_name (i := 1) sc_read_point.nd rfl (Or.inl rfl)) (gs_cons (g_name (i := 2) sc_read_point.nd rfl (Or.inl rfl)) (gs_cons (g_name (i := 3) sc_read_point.nd rfl (Or.inl rfl)) gs_nil)))))) (ssr_one (sr_ret (er_callF2 c_at hr (by rfl) (er_or (er_of (e_call c_read_ratio hr (by rfl) (a_val (v3 1) a_nil))) (er_callM x_read_ratio hr passM (fun z => z) (by rfl) (l_cons (v3 1) l_nil))) (er_or (er_of (e_call c_read_ratio hr (by rfl) (a_val (v3 3) a_nil))) (er_callM x_read_ratio hr passM (fun z => z) (by rfl) (l_cons (v3 3) l_nil))))))), ?_⟩)
  rintro ds ⟨l, rfl, h8, hl, hno⟩
  refine at3 (r := [.val (.str (S l)), .no, .no, .no]) rfl ?_
  refine mid4 (fun ρ => ∃ a co b : List Nat, ρ = [.val (.str (S l)), .val (.str (S a)), .val (.str (S co)), .val (.str (S b))] ∧ (∀ c ∈ a, c < 128) ∧ (∀ c ∈ b, c < 128) ∧ a.length ≤ 1000 ∧ b.length ≤ 1000 ∧ ¬ (OkR a ∧ OkR b)) ?_ (fun N kk => ?_)
  rotate_left
  · refine ⟨_, rfl, _, rfl, _, rfl, rfl, Nat.le_trans hl (by decide), ?_⟩
    rw [s_comma]
    rcases cut_at (l := l) (c := 44) with ⟨a, b, rfl, hn⟩ | hn
    · rw [part_some hn]
      rw [List.length_append, List.length_cons] at hl
      exact ⟨_, rfl, rfl, _, _, rfl, _, _, rfl, _, _, rfl, rfl, kk _ ⟨a, [44], b, rfl, fun c hc => h8 c (List.mem_append_left _ hc), fun c hc => h8 c (List.mem_append_right _ (List.mem_cons_of_mem _ hc)), by omega, by omega, fun z => hno ⟨a, b, z.1, z.2, rfl⟩⟩⟩
    · rw [part_none hn]
      exact ⟨_, rfl, rfl, _, _, rfl, _, _, rfl, _, _, rfl, rfl, kk _ ⟨l, [], [], rfl, h8, fun c hc => absurd hc (by simp), hl, by simp, fun z => okR_nil z.2⟩⟩
  rintro ρ ⟨a, co, b, rfl, a8, b8, al, bl, hab⟩
  by_cases ha : OkR a
  rotate_left
  · exact .inr ⟨_, rfl, a, rfl, a8, al, ha⟩
  have hb : ¬ OkR b := fun z => hab ⟨ha, z⟩
  obtain ⟨x, y, lo, hx, hy, rfl⟩ := ha
  exact .inl ⟨_, rfl, rfl, x, y, rfl, lo, hx, hy, .inr ⟨_, rfl, b, rfl, b8, bl, hb⟩⟩

theorem sc_law_is_whole : FnScope ["_law_text_here"] ["_law_text_here"] (defScope s_law_is_whole) := ⟨rfl, rfl, rfl, by decide +kernel, rfl, by decide +kernel, by decide +kernel⟩

def F_is_wholeL  : FS := fun as k => ∃ (l : List Nat), as = [.val (.str (S l))] ∧ (∀ c ∈ l, c < 128) ∧ (l.length ≤ 1000) ∧ k (.val (.bl (isW l)))
theorem ok_is_wholeL {P : Program} {w : World} {K : PySem.W.Frag} {mg : Str → Option Value} {base : Heap} (B : Blts mg)   (F : Fnd K mg "_law_is_whole" s_law_is_whole ["_law_text_here"])  :
    Cal P w K mg base "_law_is_whole" ["_law_text_here"] 2 (Con K 1 F_is_wholeL) := by
  refine def3 (lv := 1) F sc_law_is_whole rfl (fun f cdv A outer s H E hr => ⟨_, (s_cons (s_if (w_t (w_or (t_not (t_chain (f := fun i j => decide (i ≤ j)) (g := fun i j => decide (i ≤ j)) op_le op_le e_int (e_lenS (v3 0) (by rfl) B.len_) e_int)) (w_or1 (t_not (t_val (e_allB (o_e (o_compG (ts := ["_law_sign"]) (fr := []) (js := []) (i_str (v3 0)) (fun _ _ _ _ => (g_name (i := 0) (show List.Nodup (["_law_sign"] : List Str) by decide +kernel) rfl (Or.inl rfl))) (fun _ _ _ _ => ifs_nil) (fun _ _ _ _ => (e_inS (v3 0) e_str (by rfl))) ⟨rfl, by decide +kernel, rfl, by decide +kernel, fsub_of (List.forall_mem_nil _), fhas_b rfl, by walk_at "ffr", rfl⟩)) rfl (by rfl) B.all_)))))) (s_one (s_ret e_bl)) s_nil) (s_one (s_ret (e_or (e_eq (hr.units) (v3 0) e_str (nomark _)) (e_one (e_ne (hr.units) (e_ixS (v3 0) e_int (fun _ _ => rfl)) e_str (nomark _))))))), ?_⟩)
  rintro as k hl ⟨l, rfl, h8, hl, hk⟩
  refine at3 (r := [.val (.str (S l))]) rfl ?_
  walk_at "wd"
  refine ⟨by rw [S_len]; exact Nat.le_trans hl (by decide), _, _, rfl, rfl, ?_⟩
  rw [S_len]
  by_cases h1 : 1 ≤ l.length
  rotate_left
  · refine iteF3 (decide_eq_false (by omega)) (iteT3 rfl (iteT3 rfl ?_))
    rw [isW_short h1] at hk
    exact hk
  refine iteT3 (decide_eq_true (by omega)) ⟨_, rfl, ?_⟩
  by_cases h2 : l.length ≤ 30
  rotate_left
  · refine iteT3 (by rw [decide_eq_false (by omega)]; rfl) (iteT3 rfl ?_)
    rw [isW_long h2] at hk
    exact hk
  refine iteF3 (by rw [decide_eq_true (by omega)]; rfl) ⟨_, rfl, _, rfl, ?_, ?_⟩
  · rw [Array.all_eq_true']
    intro c hc
    exact decide_eq_true (h8 c (by simpa [S] using hc))
  rw [S_list]
  refine ⟨by rw [List.length_map]; exact Nat.le_trans hl (by decide), ?_⟩
  refine compG_map (f := fun c => D.str ⟨#[c]⟩) (h := fun c => D.bl (decide (48 ≤ c ∧ c ≤ 57))) (fs := []) (fun c hc k3 hk3 => ?_) ?_
  · refine ⟨_, rfl, _, _, rfl, rfl, ?_⟩
    rw [PySem.StrLaws.found_one]
    have e : decide (c ∈ (Str.ofString "0123456789").cps.toList) = decide (48 ≤ c ∧ c ≤ 57) := by
      rw [decide_eq_decide]
      exact ⟨fig_iff, fig_mem⟩
    rw [e]
    exact hk3
  refine ⟨l.map fun c => decide (48 ≤ c ∧ c ≤ 57), by rw [List.map_map]; rfl, _, rfl, ?_⟩
  by_cases hall : ∀ c ∈ l, 48 ≤ c ∧ c ≤ 57
  rotate_left
  · have e : (l.map fun c => decide (48 ≤ c ∧ c ≤ 57)).all id = false := by
      cases q : (l.map fun c => decide (48 ≤ c ∧ c ≤ 57)).all id with
      | false => rfl
      | true => exact absurd (fun c hc => of_decide_eq_true (List.all_eq_true.mp q _ (List.mem_map.mpr ⟨c, hc, rfl⟩))) hall
    refine iteT3 (by rw [e]; rfl) ?_
    obtain ⟨c, hc⟩ := Classical.not_forall.mp hall
    obtain ⟨hc, hn⟩ := Classical.not_imp.mp hc
    rw [isW_odd hc hn] at hk
    exact hk
  have e : (l.map fun c => decide (48 ≤ c ∧ c ≤ 57)).all id = true := List.all_eq_true.mpr fun b hb => by
    obtain ⟨c, hc, rfl⟩ := List.mem_map.mp hb
    exact decide_eq_true (hall c hc)
  refine iteF3 (by rw [e]; rfl) ?_
  rw [isW_last h1 h2 hall] at hk
  refine ⟨_, rfl, .S, rfl, rfl, by decide, _, rfl, ?_⟩
  rw [if_neg Bool.false_ne_true, eq_nought]
  refine iteD (fun g => ?_) (fun g => ?_)
  · rw [decide_eq_true g, Bool.true_or] at hk
    exact hk
  rw [decide_eq_false g, Bool.false_or] at hk
  refine ⟨_, rfl, _, 0, l.headD 0, rfl, rfl, by rw [S_len]; exact Nat.le_trans h2 (by decide), at_head h1, .S, rfl, rfl, by decide, ?_⟩
  show k (.val (.bl (!eqD (D.str (S [l.headD 0])) (D.str (Str.ofString "0")))))
  rw [eq_nought]
  have e : (!decide ([l.headD 0] = [48])) = decide (l.headD 0 ≠ 48) := by simp
  rw [e]
  exact hk

theorem sc_law_ratio_in : FnScope ["_law_text_here", "_law_rest", "_law_parts", "_law_found"] ["_law_text_here"] (defScope s_law_ratio_in) := ⟨rfl, rfl, rfl, by decide +kernel, rfl, by decide +kernel, by decide +kernel⟩

def F_ratio_inL  : FS := fun as k => ∃ (l : List Nat), as = [.val (.str (S l))] ∧ (∀ c ∈ l, c < 128) ∧ (l.length ≤ 1000) ∧ ((∃ x y : Int, Low x y ∧ x.natAbs < 1000000000000000000000000000000 ∧ y.natAbs < 1000000000000000000000000000000 ∧ l = rl x y ∧ k (.val (dR (x, y)))) ∨ (¬ OkR l ∧ k (.val .non)))
theorem ok_ratio_inL {P : Program} {w : World} {K : PySem.W.Frag} {mg : Str → Option Value} {base : Heap} (B : Blts mg)   (F : Fnd K mg "_law_ratio_in" s_law_ratio_in ["_law_text_here"]) (c_law_is_whole : Cal P w K mg base "_law_is_whole" ["_law_text_here"] 2 (Con K 1 F_is_wholeL)) (c_law_gcd : Cal P w K mg base "_law_gcd" ["_law_one", "_law_two"] 2 (Con K 2 F_law_gcd)) :
    Cal P w K mg base "_law_ratio_in" ["_law_text_here"] 3 (Con K 1 F_ratio_inL) := by
  refine def3 (lv := 2) F sc_law_ratio_in rfl (fun f cdv A outer s H E hr => ⟨_, (s_cons (s_set (i := 1) sc_law_ratio_in.nd rfl (Or.inl rfl) (v3 0)) (s_cons (s_if (t_eq (hr.units) (e_slS (v3 0) p_none (p_some e_int)) e_str (nomark _)) (s_one (s_set (i := 1) sc_law_ratio_in.nd rfl (Or.inl rfl) (e_slS (v3 0) (p_some e_int) p_none))) s_nil) (s_cons (s_set (i := 2) sc_law_ratio_in.nd rfl (Or.inl rfl) (o_e (o_split (v3 1) e_str))) (s_cons (s_if (w_t (w_or (t_cmp (f := fun i j => decide (j < i)) op_gt (e_len (v3 2) (by rfl) B.len_) e_int (nomark _)) (w_or (t_not (t_val (e_allB (o_e (o_compG (ts := ["_law_part"]) (fr := []) (js := []) (i_list (v3 2)) (fun _ _ _ _ => (g_name (i := 0) (show List.Nodup (["_law_part"] : List Str) by decide +kernel) rfl (Or.inl rfl))) (fun _ _ _ _ => ifs_nil) (fun _ _ _ _ => (e_call c_law_is_whole hr (by rfl) (a_val (v3 0) a_nil))) ⟨rfl, by decide +kernel, rfl, by decide +kernel, fsub_of (List.forall_mem_nil _), fhas_b rfl, by walk_at "ffr", rfl⟩)) rfl (by rfl) B.all_))) (w_or1 (t_eq (hr.units) (e_slS (v3 0) p_none (p_some e_int)) e_str (nomark _)))))) (s_one (s_ret e_non)) s_nil) (s_cons (s_setO (i := 3) sc_law_ratio_in.nd rfl (Or.inl rfl) (o_cat (o_e (o_compG (ts := ["_law_part"]) (fr := []) (js := []) (i_list (v3 2)) (fun _ _ _ _ => (g_name (i := 0) (show List.Nodup (["_law_part"] : List Str) by decide +kernel) rfl (Or.inl rfl))) (fun _ _ _ _ => ifs_nil) (fun _ _ _ _ => (e_intS (v3 0) (by rfl) B.int_)) ⟨rfl, by decide +kernel, rfl, by decide +kernel, fsub_of (List.forall_mem_nil _), fhas_b rfl, by walk_at "ffr", rfl⟩)) (o_e (o_lst (l_cons e_int l_nil))))) (s_cons (s_if (w_t (w_and (t_cmp (f := fun i j => decide (i = j)) op_eqI (e_len (v3 2) (by rfl) B.len_) e_int (nomark _)) (w_and1 (w_t (w_or (t_cmp (f := fun i j => decide (i < j)) op_lt (e_ixO 3 e_int (fun _ _ => rfl)) e_int (nomark _)) (w_or1 (t_cmp (f := fun i j => !decide (i = j)) op_neI (e_call c_law_gcd hr (by rfl) (a_val (e_ixO 3 e_int (fun _ _ => rfl)) (a_val (e_ixO 3 e_int (fun _ _ => rfl)) a_nil))) e_int (nomark _)))))))) (s_one (s_ret e_non)) s_nil) (s_cons (s_if (t_ne (hr.units) (v3 1) (v3 0) (nomark _)) (s_one (s_put 3 (e_neg (e_ixO 3 e_int (fun _ _ => rfl))) e_int)) s_nil) (s_one (s_ret (e_tup (l_cons (e_ixO 3 e_int (fun _ _ => rfl)) (l_cons (e_ixO 3 e_int (fun _ _ => rfl)) l_nil)))))))))))), ?_⟩)
  rintro as k hl ⟨l, rfl, h8, hl, hk⟩
  refine at3 (r := [.val (.str (S l)), .no, .no, .no]) rfl ?_
  have big : (1000 : Nat) ≤ sizeLine := by decide
  refine mid4 (fun ρ => ρ = [.val (.str (S l)), .val (.str (S l)), .no, .no]) ?_ (fun N kk => ⟨_, rfl, kk _ rfl⟩)
  rintro ρ rfl
  refine mid4 (fun ρ => ∃ m, ρ = [.val (.str (S l)), .val (.str (S m)), .no, .no] ∧ Bare l m ∧ (∀ c ∈ m, c < 128) ∧ m.length ≤ 1000) ?_ (fun N kk => ?_)
  rotate_left
  · refine ⟨_, rfl, _, rfl, _, rfl, by rw [S_len]; exact Nat.le_trans hl big, .S, rfl, rfl, by decide, _, rfl, ?_⟩
    rw [show Txt.slice (S l) none (some 1) = S (l.take 1) from slice_to l 1, s_dash, eqS]
    by_cases h : l.take 1 = [45]
    · refine iteT3 (by rw [decide_eq_true h]; rfl) ?_
      obtain ⟨m, rfl⟩ := take1.mp h
      refine ⟨_, rfl, _, rfl, _, rfl, by rw [S_len]; exact Nat.le_trans hl big, ?_⟩
      rw [show Txt.slice (S (45 :: m)) (some 1) none = S m from slice_from (45 :: m) 1]
      exact kk _ ⟨m, rfl, .inr rfl, fun c hc => h8 c (List.mem_cons_of_mem _ hc), by rw [List.length_cons] at hl; omega⟩
    · refine iteF3 (by rw [decide_eq_false h]; rfl) ?_
      exact kk _ ⟨l, rfl, .inl ⟨rfl, h⟩, h8, hl⟩
  rintro ρ ⟨m, rfl, hb, m8, ml⟩
  obtain ⟨ps, hps, pne, pfr, pj⟩ := split_S m 47
  have hA : ∀ x y, Low x y → l = rl x y → ps = pa x.natAbs y := fun x y lo e => pa_of hb lo e pne pfr pj
  refine mid4 (fun ρ => ρ = [.val (.str (S l)), .val (.str (S m)), .val (.lst (ps.map fun p => D.str (S p))), .no]) ?_ (fun N kk => ?_)
  rotate_left
  · refine ⟨_, rfl, _, rfl, _, rfl, rfl, by rw [S_len]; exact Nat.le_trans (show m.length + 2 ≤ 1002 by omega) (by decide), ?_⟩
    rw [s_stroke, hps, List.map_map]
    exact kk _ rfl
  rintro ρ rfl
  have pl : ps.length ≤ 1001 := by
    have := jn_many (s := 47) (ps := ps)
    rw [← pj] at this
    omega
  have p8 : ∀ p ∈ ps, (∀ c ∈ p, c < 128) ∧ p.length ≤ 1000 := fun p hp => ⟨fun c hc => m8 c (by rw [pj]; exact jn_mem hp hc), Nat.le_trans (by rw [pj]; exact jn_len hp) ml⟩
  have hNone : ¬ OkR l → k (.val .non) := fun h => hk.elim (fun ⟨x, y, lo, hx, hy, e, _⟩ => absurd ⟨x, y, lo, hx, hy, e⟩ h) (fun z => z.2)
  refine mid4 (fun ρ => ρ = [.val (.str (S l)), .val (.str (S m)), .val (.lst (ps.map fun p => D.str (S p))), .no] ∧ ps.length ≤ 2 ∧ (∀ p ∈ ps, isW p = true) ∧ l.take 2 ≠ [45, 48]) ?_ (fun N kk => ?_)
  rotate_left
  · refine ⟨_, rfl, _, rfl, _, _, rfl, rfl, _, rfl, ?_⟩
    by_cases h2 : ps.length ≤ 2
    rotate_left
    · refine iteT3 (decide_eq_true (by rw [List.length_map]; omega)) (iteT3 rfl (hNone ?_))
      rintro ⟨x, y, lo, hx, hy, e⟩
      have := hA x y lo e
      rw [this] at h2
      exact h2 (pa_len _ _)
    refine iteF3 (decide_eq_false (by rw [List.length_map]; omega)) ?_
    refine ⟨_, rfl, _, rfl, by rw [List.length_map]; exact Nat.le_trans pl (by decide), ?_⟩
    refine compG_map (f := fun p => D.str (S p)) (h := fun p => D.bl (isW p)) (fs := []) (fun p hp k3 hk3 => ⟨_, rfl, rfl, p, rfl, (p8 p hp).1, (p8 p hp).2, hk3⟩) ?_
    refine ⟨ps.map isW, by rw [List.map_map]; rfl, _, rfl, ?_⟩
    by_cases hw : ∀ p ∈ ps, isW p = true
    rotate_left
    · have e : (ps.map isW).all id = false := by
        cases q : (ps.map isW).all id with
        | false => rfl
        | true => exact absurd (fun p hp => List.all_eq_true.mp q _ (List.mem_map.mpr ⟨p, hp, rfl⟩)) hw
      refine iteT3 (by rw [e]; rfl) (iteT3 rfl (hNone ?_))
      rintro ⟨x, y, lo, hx, hy, e⟩
      have := hA x y lo e
      rw [this] at hw
      exact hw (pa_whole hx hy)
    have e : (ps.map isW).all id = true := List.all_eq_true.mpr fun b hb => by
      obtain ⟨p, hp, rfl⟩ := List.mem_map.mp hb
      exact hw p hp
    refine iteF3 (by rw [e]; rfl) ?_
    refine ⟨_, rfl, _, rfl, _, rfl, by rw [S_len]; exact Nat.le_trans hl big, .S, rfl, rfl, by decide, _, rfl, ?_⟩
    rw [show Txt.slice (S l) none (some 2) = S (l.take 2) from slice_to l 2, show Str.ofString "-0" = S [45, 48] from rfl, eqS]
    by_cases h : l.take 2 = [45, 48]
    · refine iteT3 (by rw [decide_eq_true h]; rfl) (hNone ?_)
      rintro ⟨x, y, lo, hx, hy, e⟩
      exact no_dash0 e h
    · refine iteF3 (by rw [decide_eq_false h]; rfl) ?_
      exact kk _ ⟨rfl, h2, hw, h⟩
  rintro ρ ⟨rfl, h2, hw, hd0⟩
  obtain ⟨ns, rfl, hns⟩ := nums hw
  have hfin : ∀ x y, l = rl x y → Low x y → x.natAbs < 1000000000000000000000000000000 → y.natAbs < 1000000000000000000000000000000 → k (.val (dR (x, y))) := fun x y e lo hx hy => by
    rcases hk with ⟨u, v, lo2, hu, hv, e2, hk⟩ | ⟨hno, _⟩
    · obtain ⟨rfl, rfl⟩ := rl_inj lo lo2 hx hy hu hv (e.symm.trans e2)
      exact hk
    · exact absurd ⟨x, y, lo, hx, hy, e⟩ hno
  refine mid4 (fun ρ => ρ = [.val (.str (S l)), .val (.str (S m)), .val (.lst ((ns.map fg).map fun p => D.str (S p))), .own (ns.map (fun n => D.int (n : Nat)) ++ [D.int 1] : List D)]) ?_ (fun N kk => ?_)
  rotate_left
  · refine ⟨_, rfl, _, rfl, by rw [List.length_map]; exact Nat.le_trans pl (by decide), ?_⟩
    rw [List.map_map]
    refine compG_map (f := fun n => D.str (S (fg n))) (h := fun n => D.int (n : Nat)) (fs := []) (fun n hn k3 hk3 => ⟨_, rfl, _, _, rfl, fg_reads (hns n hn), Nat.le_trans (fg_le (hns n hn)) (by decide), hk3⟩) ?_
    refine ⟨by decide, _, _, rfl, rfl, ?_, kk _ (by rw [List.map_map]; rfl)⟩
    rw [List.length_map] at h2
    rw [List.length_map]
    exact Nat.le_trans (show ns.length + 1 ≤ 3 by omega) (by decide)
  rintro ρ rfl
  have neg : ∀ (n : Nat) (r : List D) (N : List Sl → Prop), (N [.val (.str (S l)), .val (.str (S m)), .val (.lst ((ns.map fg).map fun p => D.str (S p))), .own (D.int (if m = l then (n : Int) else -n) :: r : List D)]) →
      uIf (uB (uEq true (uVar 1) (uVar 0))) (uPut 3 (uC (D.int 0)) (uNeg (uIxO 3 (uC (D.int 0))))) uNext { nx := N, rt := k } [.val (.str (S l)), .val (.str (S m)), .val (.lst ((ns.map fg).map fun p => D.str (S p))), .own (D.int n :: r : List D)] := fun n r N hN => by
    refine ⟨_, rfl, _, rfl, .S, rfl, rfl, by decide, _, rfl, ?_⟩
    rw [if_pos rfl, eqS]
    by_cases h : m = l
    · rw [if_pos h] at hN
      refine iteF3 (by rw [decide_eq_true h]; rfl) hN
    · rw [if_neg h] at hN
      exact iteT3 (by rw [decide_eq_false h]; rfl) ⟨_, rfl, _, rfl, _, _, rfl, atI_zero, _, rfl, _, _, rfl, ixN_zero, hN⟩
  match ns, h2, pj, hA, hns, neg, pne with
  | [], _, _, _, _, _, pne => exact absurd rfl pne
  | [n], _, pj, hA, hns, neg, _ =>
    refine pass4 (fun N hN => ⟨_, rfl, _, rfl, _, _, rfl, rfl, _, rfl, iteF3 rfl (iteF3 rfl hN)⟩) ?_
    refine mid4 (fun ρ => ρ = [.val (.str (S l)), .val (.str (S m)), .val (.lst (([n].map fg).map fun p => D.str (S p))), .own ([D.int (if m = l then (n : Int) else -n), D.int 1] : List D)]) ?_ (fun N kk => neg n [D.int 1] N (kk _ rfl))
    rintro ρ rfl
    have hm : m = rl (n : Int) 1 := by rw [pa_jn (by decide)]; exact pj
    obtain ⟨e, lo⟩ := fin_rl hb hm (by decide) (Int.gcd_one_right _) hd0
    have hn := hns n List.mem_cons_self
    have nab : (if m = l then (n : Int) else -n).natAbs < 1000000000000000000000000000000 := by split <;> omega
    refine ⟨_, rfl, _, _, rfl, rfl, _, rfl, _, _, rfl, rfl, (show 2 ≤ sizeLine by decide), ?_⟩
    exact hfin _ _ e lo nab (by decide)
  | [n, q], _, pj, hA, hns, neg, _ =>
    have hn := hns n List.mem_cons_self
    have nab : (if m = l then (n : Int) else -n).natAbs < 1000000000000000000000000000000 := by split <;> omega
    have hq := hns q (by simp)
    have hP : ∀ x y, Low x y → l = rl x y → x.natAbs < 1000000000000000000000000000000 → y.natAbs < 1000000000000000000000000000000 → x.natAbs = n ∧ y = q ∧ 2 ≤ q := fun x y lo e hx hy => by
      have h := hA x y lo e
      have y0 := lo.1
      unfold pa at h
      by_cases y1 : y = 1
      · rw [if_pos y1] at h; exact absurd (congrArg List.length h) (by simp)
      · rw [if_neg y1] at h
        have q1 := fg_inj hn hx (List.cons.inj h).1
        have q2 := fg_inj hq hy (List.cons.inj (List.cons.inj h).2).1
        omega
    refine mid4 (fun ρ => ρ = [.val (.str (S l)), .val (.str (S m)), .val (.lst (([n, q].map fg).map fun p => D.str (S p))), .own ([D.int n, D.int q, D.int 1] : List D)] ∧ 2 ≤ q ∧ Int.gcd (n : Int) q = 1) ?_ (fun N kk => ?_)
    rotate_left
    · refine ⟨_, rfl, _, rfl, _, _, rfl, rfl, _, rfl, iteT3 rfl ?_⟩
      refine ⟨_, rfl, _, _, rfl, rfl, _, _, rfl, rfl, _, rfl, ?_⟩
      by_cases h2 : 2 ≤ q
      rotate_left
      · refine iteT3 (decide_eq_true (by omega)) (iteT3 rfl (hNone ?_))
        rintro ⟨x, y, lo, hx, hy, e⟩
        exact h2 (hP x y lo e hx hy).2.2
      refine iteF3 (decide_eq_false (by omega)) ?_
      refine ⟨_, rfl, _, _, rfl, rfl, _, rfl, _, _, rfl, rfl, rfl, (n : Int), (q : Int), rfl, ?_⟩
      refine ⟨_, _, rfl, rfl, _, rfl, ?_⟩
      by_cases hg : Int.gcd (n : Int) q = 1
      · refine iteF3 (by rw [hg]; rfl) ?_
        exact kk _ ⟨rfl, h2, hg⟩
      · refine iteT3 (by rw [decide_eq_false (by omega)]; rfl) (hNone ?_)
        rintro ⟨x, y, lo, hx, hy, e⟩
        obtain ⟨a, b, _⟩ := hP x y lo e hx hy
        apply hg
        rw [← lo.2, ← a, ← b]
        rfl
    rintro ρ ⟨rfl, q2, hg⟩
    refine mid4 (fun ρ => ρ = [.val (.str (S l)), .val (.str (S m)), .val (.lst (([n, q].map fg).map fun p => D.str (S p))), .own ([D.int (if m = l then (n : Int) else -n), D.int q, D.int 1] : List D)]) ?_ (fun N kk => neg n [D.int q, D.int 1] N (kk _ rfl))
    rintro ρ rfl
    have hm : m = rl (n : Int) q := by
      rw [pa_jn (by omega), pj]
      unfold pa
      rw [if_neg (by omega)]
      rfl
    obtain ⟨e, lo⟩ := fin_rl hb hm (by omega) hg hd0
    refine ⟨_, rfl, _, _, rfl, rfl, _, rfl, _, _, rfl, rfl, (show 2 ≤ sizeLine by decide), ?_⟩
    exact hfin _ (q : Int) e lo nab hq
  | _ :: _ :: _ :: _, h2, _, _, _, _, _ => exact absurd h2 (by simp)

theorem sc_law_point_in : FnScope ["_law_text_here", "_law_parts", "_law_places"] ["_law_text_here"] (defScope s_law_point_in) := ⟨rfl, rfl, rfl, by decide +kernel, rfl, by decide +kernel, by decide +kernel⟩

def F_point_inL  : FS := fun as k => ∃ (l : List Nat), as = [.val (.str (S l))] ∧ (∀ c ∈ l, c < 128) ∧ (l.length ≤ 1000) ∧ ((∃ x y u v : Int, Low x y ∧ Low u v ∧ x.natAbs < 1000000000000000000000000000000 ∧ y.natAbs < 1000000000000000000000000000000 ∧ u.natAbs < 1000000000000000000000000000000 ∧ v.natAbs < 1000000000000000000000000000000 ∧ l = rl x y ++ 44 :: rl u v ∧ k (.val (.tup [dR (x, y), dR (u, v)]))) ∨ (¬ OkP l ∧ k (.val .non)))
theorem ok_point_inL {P : Program} {w : World} {K : PySem.W.Frag} {mg : Str → Option Value} {base : Heap} (B : Blts mg)   (F : Fnd K mg "_law_point_in" s_law_point_in ["_law_text_here"]) (c_law_ratio_in : Cal P w K mg base "_law_ratio_in" ["_law_text_here"] 3 (Con K 1 F_ratio_inL)) :
    Cal P w K mg base "_law_point_in" ["_law_text_here"] 4 (Con K 1 F_point_inL) := by
  refine def3 (lv := 3) F sc_law_point_in rfl (fun f cdv A outer s H E hr => ⟨_, (s_cons (s_set (i := 1) sc_law_point_in.nd rfl (Or.inl rfl) (o_e (o_split (v3 0) e_str))) (s_cons (s_if (t_cmp (f := fun i j => !decide (i = j)) op_neI (e_len (v3 1) (by rfl) B.len_) e_int (nomark _)) (s_one (s_ret e_non)) s_nil) (s_cons (s_thenFz 2 (s_compA (i := 2) sc_law_point_in.nd rfl rfl (ts := ["_law_part"]) (fr := []) (js := []) (i_list (v3 1)) (fun _ _ _ _ => (g_name (i := 0) (show List.Nodup (["_law_part"] : List Str) by decide +kernel) rfl (Or.inl rfl))) (fun _ _ _ _ => ifs_nil) (fun _ _ _ _ => (e_call c_law_ratio_in hr (by rfl) (a_val (v3 0) a_nil))) ⟨rfl, by decide +kernel, rfl, by decide +kernel, fsub_of (List.forall_mem_nil _), fhas_b rfl, by walk_at "ffr", rfl⟩)) (s_cons (s_if (t_inN (hr.units) e_non (v3 2) (by rfl)) (s_one (s_ret e_non)) s_nil) (s_one (s_ret (e_tup (l_cons (e_ix (v3 2) e_int (fun _ _ => rfl)) (l_cons (e_ix (v3 2) e_int (fun _ _ => rfl)) l_nil))))))))), ?_⟩)
  rintro as k hl ⟨l, rfl, h8, hl, hk⟩
  refine at3 (r := [.val (.str (S l)), .no, .no]) rfl ?_
  have hNone : ¬ OkP l → k (.val .non) := fun h => hk.elim (fun ⟨x, y, u, v, l1, l2, hx, hy, hu, hv, e, _⟩ => absurd ⟨_, _, ⟨x, y, l1, hx, hy, rfl⟩, ⟨u, v, l2, hu, hv, rfl⟩, e⟩ h) (fun z => z.2)
  obtain ⟨ps, hps, pne, pfr, pj⟩ := split_S l 44
  have pl : ps.length ≤ 1001 := by
    have := jn_many (s := 44) (ps := ps)
    rw [← pj] at this
    omega
  have p8 : ∀ p ∈ ps, (∀ c ∈ p, c < 128) ∧ p.length ≤ 1000 := fun p hp => ⟨fun c hc => h8 c (by rw [pj]; exact jn_mem hp hc), Nat.le_trans (by rw [pj]; exact jn_len hp) hl⟩
  have hO : OkP l → ∃ a b, OkR a ∧ OkR b ∧ ps = [a, b] := fun ⟨a, b, ha, hb, e⟩ => by
    refine ⟨a, b, ha, hb, jn_uniq pne (by simp) pfr ?_ (pj.symm.trans e)⟩
    intro p hp
    obtain ⟨x, y, _, _, _, rfl⟩ := ha
    obtain ⟨u, v, _, _, _, rfl⟩ := hb
    simp at hp
    rcases hp with rfl | rfl <;> exact rl_comma _ _
  refine mid4 (fun ρ => ρ = [.val (.str (S l)), .val (.lst (ps.map fun p => D.str (S p))), .no]) ?_ (fun N kk => ?_)
  rotate_left
  · refine ⟨_, rfl, _, rfl, _, rfl, rfl, by rw [S_len]; exact Nat.le_trans (show l.length + 2 ≤ 1002 by omega) (by decide), ?_⟩
    rw [s_comma, hps, List.map_map]
    exact kk _ rfl
  rintro ρ rfl
  refine mid4 (fun ρ => ρ = [.val (.str (S l)), .val (.lst (ps.map fun p => D.str (S p))), .no] ∧ ps.length = 2) ?_ (fun N kk => ?_)
  rotate_left
  · refine ⟨_, rfl, _, rfl, _, _, rfl, rfl, _, rfl, ?_⟩
    by_cases h2 : ps.length = 2
    · refine iteF3 (by rw [decide_eq_true (by rw [List.length_map]; omega)]; rfl) ?_
      exact kk _ ⟨rfl, h2⟩
    · refine iteT3 (by rw [decide_eq_false (by rw [List.length_map]; omega)]; rfl) (hNone fun h => ?_)
      obtain ⟨a, b, _, _, rfl⟩ := hO h
      exact h2 rfl
  rintro ρ ⟨rfl, h2⟩
  match ps, h2, pj, hO, p8 with
  | [a, b], _, pj, hO, p8 =>
    have c1 : ∀ p ∈ [a, b], ∀ k3 : D → Prop, (∀ d, ((∃ x y : Int, Low x y ∧ x.natAbs < 1000000000000000000000000000000 ∧ y.natAbs < 1000000000000000000000000000000 ∧ p = rl x y ∧ d = dR (x, y)) ∨ (¬ OkR p ∧ d = .non)) → k3 d) → uCall 1 F_ratio_inL (uaV (uVar 0) uaNil) [.val (D.str (S p))] k3 := fun p hp k3 h => by
      refine ⟨_, rfl, rfl, p, rfl, (p8 p hp).1, (p8 p hp).2, ?_⟩
      by_cases ok : OkR p
      · obtain ⟨x, y, lo, hx, hy, e⟩ := ok
        exact .inl ⟨x, y, lo, hx, hy, e, h _ (.inl ⟨x, y, lo, hx, hy, e, rfl⟩)⟩
      · exact .inr ⟨ok, h _ (.inr ⟨ok, rfl⟩)⟩
    refine mid4 (fun ρ => ∃ d1 d2 : D, ρ = [.val (.str (S l)), .val (.lst ([a, b].map fun p => D.str (S p))), .val (.lst [d1, d2])] ∧ ((∃ x y : Int, Low x y ∧ x.natAbs < 1000000000000000000000000000000 ∧ y.natAbs < 1000000000000000000000000000000 ∧ a = rl x y ∧ d1 = dR (x, y)) ∨ (¬ OkR a ∧ d1 = .non)) ∧ ((∃ x y : Int, Low x y ∧ x.natAbs < 1000000000000000000000000000000 ∧ y.natAbs < 1000000000000000000000000000000 ∧ b = rl x y ∧ d2 = dR (x, y)) ∨ (¬ OkR b ∧ d2 = .non))) ?_ (fun N kk => ?_)
    rotate_left
    · refine ⟨_, rfl, _, rfl, (show 2 ≤ sizeLine by decide), ?_⟩
      refine compG_two (c1 a (by simp) _ fun d1 h1 => c1 b (by simp) _ fun d2 h2 => ?_)
      exact ⟨_, rfl, kk _ ⟨d1, d2, rfl, h1, h2⟩⟩
    rintro ρ ⟨d1, d2, rfl, h1, h2⟩
    have t1 : TN d1 := by rcases h1 with ⟨x, y, _, _, _, _, rfl⟩ | ⟨_, rfl⟩; exact .inr ⟨_, rfl⟩; exact .inl rfl
    have t2 : TN d2 := by rcases h2 with ⟨x, y, _, _, _, _, rfl⟩ | ⟨_, rfl⟩; exact .inr ⟨_, rfl⟩; exact .inl rfl
    refine mid4 (fun ρ => ρ = [.val (.str (S l)), .val (.lst ([a, b].map fun p => D.str (S p))), .val (.lst [d1, d2])] ∧ d1 ≠ .non ∧ d2 ≠ .non) ?_ (fun N kk => ?_)
    rotate_left
    · refine ⟨_, rfl, rfl, _, rfl, ?_, fun c hc => ⟨_, rfl, ?_⟩⟩
      · intro e he
        rcases List.mem_cons.mp he with rfl | he
        · exact t1
        · rcases List.mem_cons.mp he with rfl | he
          · exact t2
          · cases he
      cases c with
      | true =>
        refine iteT3 rfl (hNone fun h => ?_)
        obtain ⟨a', b', ha, hb, e⟩ := hO h
        obtain ⟨ea, e⟩ := List.cons.inj e
        obtain ⟨eb, _⟩ := List.cons.inj e
        rw [← ea] at ha
        rw [← eb] at hb
        have m := hc.mp rfl
        rcases List.mem_cons.mp m with q | m
        · subst q
          rcases h1 with ⟨x, y, _, _, _, _, z⟩ | ⟨n, _⟩
          · cases z
          · exact n ha
        · have q : D.non = d2 := by simpa using m
          subst q
          rcases h2 with ⟨x, y, _, _, _, _, z⟩ | ⟨n, _⟩
          · cases z
          · exact n hb
      | false =>
        refine iteF3 rfl (kk _ ⟨rfl, fun z => ?_, fun z => ?_⟩)
        · have := hc.mpr (by rw [z]; exact List.mem_cons_self)
          cases this
        · have := hc.mpr (by rw [z]; simp)
          cases this
    rintro ρ ⟨rfl, n1, n2⟩
    rcases h1 with ⟨x, y, l1, hx, hy, e1, rfl⟩ | ⟨_, z⟩
    rotate_left
    · exact absurd z n1
    rcases h2 with ⟨u, v, l2, hu, hv, e2, rfl⟩ | ⟨_, z⟩
    rotate_left
    · exact absurd z n2
    refine ⟨_, rfl, _, _, _, .inr rfl, rfl, rfl, _, rfl, _, _, _, .inr rfl, rfl, rfl, (show 2 ≤ sizeLine by decide), ?_⟩
    have e : l = rl x y ++ 44 :: rl u v := by rw [pj, e1, e2]; rfl
    rcases hk with ⟨x', y', u', v', l1', l2', hx', hy', hu', hv', e', hk⟩ | ⟨hno, _⟩
    · obtain ⟨q1, q2⟩ := cut_uniq (rl_comma x y) (rl_comma x' y') (e.symm.trans e')
      obtain ⟨rfl, rfl⟩ := rl_inj l1 l1' hx hy hx' hy' q1
      obtain ⟨rfl, rfl⟩ := rl_inj l2 l2' hu hv hu' hv' q2
      exact hk
    · exact absurd ⟨_, _, ⟨x, y, l1, hx, hy, rfl⟩, ⟨u, v, l2, hu, hv, rfl⟩, e⟩ hno

theorem sc_law_sign_spoiled : FnScope ["_law_bag_here", "_law_text_here", "_law_spot", "_law_sign", "_law_way"] ["_law_bag_here", "_law_text_here"] (defScope s_law_sign_spoiled) := ⟨rfl, rfl, rfl, by decide +kernel, rfl, by decide +kernel, by decide +kernel⟩

def F_spoiledL  : FS := fun as k => ∃ (l : List Nat), as = [.bag, .val (.str (S l))] ∧ (∀ c ∈ l, c < 128) ∧ (l.length ≤ 200) ∧ (∀ m : List Nat, (∀ c ∈ m, c < 128) → m.length ≤ 201 → k (.val (.str (S m))))
theorem ok_spoiledL {P : Program} {w : World} {K : PySem.W.Frag} {mg : Str → Option Value} {base : Heap} (B : Blts mg)   (F : Fnd K mg "_law_sign_spoiled" s_law_sign_spoiled ["_law_bag_here", "_law_text_here"]) (c_law_draw : Cal P w K mg base "_law_draw" ["_law_bag_here", "_law_many"] 1 (Con K 2 (F_draw 400))) :
    Cal P w K mg base "_law_sign_spoiled" ["_law_bag_here", "_law_text_here"] 2 (Con K 2 F_spoiledL) := by
  refine def3 (lv := 1) F sc_law_sign_spoiled rfl (fun f cdv A outer s H E hr => ⟨_, (s_cons (s_set (i := 2) sc_law_sign_spoiled.nd rfl (Or.inl rfl) (e_call c_law_draw hr (by rfl) (a_bag 0 (a_val (e_add (e_lenS (v3 1) (by rfl) B.len_) e_int) a_nil)))) (s_cons (s_set (i := 3) sc_law_sign_spoiled.nd rfl (Or.inl rfl) (e_ixS e_str (e_call c_law_draw hr (by rfl) (a_bag 0 (a_val e_int a_nil))) (fun _ _ => rfl))) (s_cons (s_set (i := 4) sc_law_sign_spoiled.nd rfl (Or.inl rfl) (e_call c_law_draw hr (by rfl) (a_bag 0 (a_val e_int a_nil)))) (s_cons (s_if (t_cmp (f := fun i j => decide (i = j)) op_eqI (v3 4) e_int (nomark _)) (s_one (s_ret (e_addS (e_slS (v3 1) p_none (p_some (v3 2))) (e_slS (v3 1) (p_some (e_add (v3 2) e_int)) p_none)))) s_nil) (s_cons (s_if (t_cmp (f := fun i j => decide (i = j)) op_eqI (v3 4) e_int (nomark _)) (s_one (s_ret (e_addS (e_addS (e_slS (v3 1) p_none (p_some (v3 2))) (v3 3)) (e_slS (v3 1) (p_some (e_add (v3 2) e_int)) p_none)))) s_nil) (s_cons (s_if (t_cmp (f := fun i j => decide (i = j)) op_eqI (v3 4) e_int (nomark _)) (s_one (s_ret (e_addS (e_addS (e_slS (v3 1) p_none (p_some (v3 2))) (v3 3)) (e_slS (v3 1) (p_some (v3 2)) p_none)))) s_nil) (s_one (s_ret (v3 1))))))))), ?_⟩)
  rintro as k hl ⟨l, rfl, h8, hl, hk⟩
  refine at3 (r := [.bag, .val (.str (S l)), .no, .no, .no]) rfl ?_
  refine mid4 (fun ρ => ∃ n : Nat, n ≤ l.length ∧ ρ = [.bag, .val (.str (S l)), .val (.int n), .no, .no]) ?_ (fun N kk => ?_)
  rotate_left
  · walk_at "wd"
    refine ⟨by rw [S_len]; exact Nat.le_trans hl (by decide), _, _, rfl, rfl, rfl, ?_⟩
    rw [S_len]
    refine ⟨_, rfl, by omega, Nat.le_trans (bits_om (by omega) (by omega)) (by decide), fun r r0 r1 => ?_⟩
    obtain ⟨n, rfl⟩ := Int.eq_ofNat_of_zero_le r0
    exact kk _ ⟨n, by omega, rfl⟩
  rintro ρ ⟨n, hn, rfl⟩
  refine mid4 (fun ρ => ∃ c : Nat, c < 128 ∧ ρ = [.bag, .val (.str (S l)), .val (.int n), .val (.str (S [c])), .no]) ?_ (fun N kk => ?_)
  rotate_left
  · refine ⟨rfl, rfl, _, rfl, by decide, by decide, fun r r0 r1 => ?_⟩
    obtain ⟨c, hc, e⟩ := sign_at r0 r1
    exact ⟨_, _, c, rfl, rfl, by decide, e, kk _ ⟨c, hc, rfl⟩⟩
  rintro ρ ⟨c, hc, rfl⟩
  refine mid4 (fun ρ => ∃ w : Int, ρ = [.bag, .val (.str (S l)), .val (.int n), .val (.str (S [c])), .val (.int w)]) ?_ (fun N kk => ?_)
  rotate_left
  · exact ⟨rfl, rfl, _, rfl, by decide, by decide, fun r r0 r1 => kk _ ⟨r, rfl⟩⟩
  rintro ρ ⟨w, rfl⟩
  have big : (1000 : Nat) ≤ sizeLine := by decide
  have e1 := slice_to l n
  have e2 := slice_from l n
  have e3 := slice_from l (n + 1)
  rw [show ((n + 1 : Nat) : Int) = (n : Int) + 1 from rfl] at e3
  have s1 : (S l).length ≤ sizeLine := by rw [S_len]; exact Nat.le_trans hl (by decide)
  have t8 : ∀ c ∈ l.take n, c < 128 := fun c hc => h8 c (List.mem_of_mem_take hc)
  have d8 : ∀ m, ∀ c ∈ l.drop m, c < 128 := fun m c hc => h8 c (List.mem_of_mem_drop hc)
  have tl : (l.take n).length = n := by rw [List.length_take]; omega
  have dl : ∀ m, (l.drop m).length = l.length - m := fun m => List.length_drop
  have cat : ∀ a b : List Nat, a.length ≤ 300 → b.length ≤ 300 → (S a).length + (S b).length ≤ sizeLine := fun a b h1 h2 => by rw [S_len, S_len]; exact Nat.le_trans (show a.length + b.length ≤ 600 by omega) (by decide)
  refine ⟨_, rfl, _, _, rfl, rfl, _, rfl, iteD (fun g => ?_) (fun g => ?_)⟩
  · refine ⟨_, rfl, _, rfl, _, rfl, _, rfl, s1, ?_⟩
    rw [e1]
    refine ⟨_, rfl, _, rfl, _, _, rfl, rfl, _, rfl, _, rfl, s1, ?_⟩
    rw [e3]
    refine ⟨_, _, rfl, rfl, cat _ _ (by omega) (by rw [dl]; omega), ?_⟩
    rw [S_app]
    refine hk _ (fun c hc => ?_) (by rw [List.length_append, tl, dl]; omega)
    rcases List.mem_append.mp hc with z | z
    · exact t8 c z
    · exact d8 _ c z
  refine ⟨_, rfl, _, _, rfl, rfl, _, rfl, iteD (fun g => ?_) (fun g => ?_)⟩
  · refine ⟨_, rfl, _, rfl, _, rfl, _, rfl, s1, ?_⟩
    rw [e1]
    refine ⟨_, rfl, _, _, rfl, rfl, cat _ _ (by omega) (by simp), ?_⟩
    rw [S_app]
    refine ⟨_, rfl, _, rfl, _, _, rfl, rfl, _, rfl, _, rfl, s1, ?_⟩
    rw [e3]
    refine ⟨_, _, rfl, rfl, cat _ _ (by rw [List.length_append, tl]; simp; omega) (by rw [dl]; omega), ?_⟩
    rw [S_app]
    refine hk _ (fun c hc => ?_) (by rw [List.length_append, List.length_append, tl, dl]; simp; omega)
    rcases List.mem_append.mp hc with z | z
    · rcases List.mem_append.mp z with z | z
      · exact t8 c z
      · have : c = _ := List.mem_singleton.mp z
        omega
    · exact d8 _ c z
  refine ⟨_, rfl, _, _, rfl, rfl, _, rfl, iteD (fun g => ?_) (fun g => ?_)⟩
  · refine ⟨_, rfl, _, rfl, _, rfl, _, rfl, s1, ?_⟩
    rw [e1]
    refine ⟨_, rfl, _, _, rfl, rfl, cat _ _ (by omega) (by simp), ?_⟩
    rw [S_app]
    refine ⟨_, rfl, _, rfl, _, rfl, _, rfl, s1, ?_⟩
    rw [e2]
    refine ⟨_, _, rfl, rfl, cat _ _ (by rw [List.length_append, tl]; simp; omega) (by rw [dl]; omega), ?_⟩
    rw [S_app]
    refine hk _ (fun c hc => ?_) (by rw [List.length_append, List.length_append, tl, dl]; simp; omega)
    rcases List.mem_append.mp hc with z | z
    · rcases List.mem_append.mp z with z | z
      · exact t8 c z
      · have : c = _ := List.mem_singleton.mp z
        omega
    · exact d8 _ c z
  exact ⟨_, rfl, hk l h8 (by omega)⟩

theorem sc_law_text : FnScope ["_law_one"] ["_law_one"] (defScope s_law_text) := ⟨rfl, rfl, rfl, by decide +kernel, rfl, by decide +kernel, by decide +kernel⟩

def F_textL  : FS := fun as k => ∃ (x y : Int), as = [.val (dR (x, y))] ∧ (x.natAbs < 1000000000000000000000000000000) ∧ (y.natAbs < 1000000000000000000000000000000) ∧ k (.val (.str (S (rl x y))))
theorem ok_textL {P : Program} {w : World} {K : PySem.W.Frag} {mg : Str → Option Value} {base : Heap} (B : Blts mg)   (F : Fnd K mg "_law_text" s_law_text ["_law_one"])  :
    Cal P w K mg base "_law_text" ["_law_one"] 2 (Con K 1 F_textL) := by
  refine def3 (lv := 1) F sc_law_text rfl (fun f cdv A outer s H E hr => ⟨_, (s_cons (s_if (t_cmp (f := fun i j => decide (i = j)) op_eqI (e_ix (v3 0) e_int (fun _ _ => rfl)) e_int (nomark _)) (s_one (s_ret (e_strI (e_ix (v3 0) e_int (fun _ _ => rfl)) (by rfl) B.str_))) s_nil) (s_one (s_ret (e_addS (e_addS (e_strI (e_ix (v3 0) e_int (fun _ _ => rfl)) (by rfl) B.str_) e_str) (e_strI (e_ix (v3 0) e_int (fun _ _ => rfl)) (by rfl) B.str_))))), ?_⟩)
  rintro as k hl ⟨x, y, rfl, hx, hy, hk⟩
  refine at3 (r := [.val (dR (x, y))]) rfl ?_
  walk_at "wd"
  unfold rl at hk
  refine iteD (fun g => ?_) (fun g => ?_)
  · rw [if_pos g] at hk
    refine ⟨_, rfl, _, _, _, .inl rfl, rfl, rfl, _, rfl, log2_lt hx, ?_⟩
    rw [str_all]
    exact hk
  · rw [if_neg g] at hk
    refine ⟨_, rfl, _, _, _, .inl rfl, rfl, rfl, _, rfl, log2_lt hx, ?_⟩
    rw [str_all, s_stroke]
    have lx := wl_len hx
    have ly := wl_len hy
    refine ⟨_, _, rfl, rfl, by rw [S_len, S_len]; exact Nat.le_trans (show (wl x).length + 1 ≤ 100 by omega) (by decide), ?_⟩
    rw [S_app]
    refine ⟨_, rfl, _, _, _, .inl rfl, rfl, rfl, _, rfl, log2_lt hy, ?_⟩
    rw [str_all]
    refine ⟨_, _, rfl, rfl, by rw [S_len, S_len, List.length_append]; exact Nat.le_trans (show (wl x).length + 1 + (wl y).length ≤ 100 by omega) (by decide), ?_⟩
    rw [S_app, List.append_assoc]
    exact hk

theorem sc_law_odd : FnScope ["_law_bag_here", "_law_some"] ["_law_bag_here"] (defScope s_law_odd) := ⟨rfl, rfl, rfl, by decide +kernel, rfl, by decide +kernel, by decide +kernel⟩

def F_oddL  : FS := fun as k =>  as = [.bag] ∧ (∀ m : List Nat, (∀ c ∈ m, c < 128) → m.length ≤ 200 → k (.val (.str (S m))))
theorem ok_oddL {P : Program} {w : World} {K : PySem.W.Frag} {mg : Str → Option Value} {base : Heap} (B : Blts mg)   (F : Fnd K mg "_law_odd" s_law_odd ["_law_bag_here"]) (c_law_draw : Cal P w K mg base "_law_draw" ["_law_bag_here", "_law_many"] 1 (Con K 2 (F_draw 400))) :
    Cal P w K mg base "_law_odd" ["_law_bag_here"] 2 (Con K 1 F_oddL) := by
  refine def3 (lv := 1) F sc_law_odd rfl (fun f cdv A outer s H E hr => ⟨_, (s_cons (s_set (i := 1) sc_law_odd.nd rfl (Or.inl rfl) (o_e (o_lst (l_cons e_str (l_cons e_str (l_cons e_str (l_cons e_str (l_cons e_str (l_cons e_str (l_cons e_str (l_cons e_str (l_cons e_str (l_cons e_str (l_cons e_str (l_cons e_str (l_cons e_str (l_cons e_str l_nil))))))))))))))))) (s_cons (s_set (i := 1) sc_law_odd.nd rfl (Or.inl rfl) (o_e (o_cat (v3 1) (o_e (o_lst (l_cons e_str (l_cons e_str (l_cons e_str (l_cons e_str (l_cons e_str (l_cons e_str (l_cons e_str (l_cons e_str (l_cons e_str (l_cons e_str (l_cons e_str l_nil)))))))))))))))) (s_cons (s_set (i := 1) sc_law_odd.nd rfl (Or.inl rfl) (o_e (o_cat (v3 1) (o_e (o_lst (l_cons (e_addS (e_mulS e_str e_int) e_str) (l_cons (e_addS (e_addS e_str (e_mulS e_str e_int)) e_str) (l_cons e_str (l_cons e_str (l_cons e_str (l_cons e_str (l_cons e_str (l_cons e_str l_nil))))))))))))) (s_one (s_ret (e_ix (v3 1) (e_call c_law_draw hr (by rfl) (a_bag 0 (a_val e_int a_nil))) (fun _ _ => rfl))))))), ?_⟩)
  rintro as k hl ⟨rfl, hk⟩
  refine at3 (r := [.bag, .no]) rfl ?_
  refine mid4 (fun ρ => ∃ xs : List Str, ρ = [.bag, .val (.lst (xs.map D.str))] ∧ xs.length = 14 ∧ xs.all ok8 = true) ?_ (fun N kk => ?_)
  rotate_left
  · refine ⟨(show 14 ≤ sizeLine by decide), kk _ ⟨[_, _, _, _, _, _, _, _, _, _, _, _, _, _], rfl, rfl, by decide +kernel⟩⟩
  rintro ρ ⟨xs, rfl, hl1, hx⟩
  refine mid4 (fun ρ => ∃ xs : List Str, ρ = [.bag, .val (.lst (xs.map D.str))] ∧ xs.length = 25 ∧ xs.all ok8 = true) ?_ (fun N kk => ?_)
  rotate_left
  · refine ⟨_, rfl, (show 11 ≤ sizeLine by decide), _, _, rfl, rfl, by rw [List.length_map, hl1]; decide, ?_⟩
    refine kk _ ⟨xs ++ [_, _, _, _, _, _, _, _, _, _, _], by rw [List.map_append]; rfl, by rw [List.length_append, hl1]; rfl, by rw [List.all_append, hx]; decide +kernel⟩
  rintro ρ ⟨xs, rfl, hl2, hx⟩
  refine mid4 (fun ρ => ∃ xs : List Str, ρ = [.bag, .val (.lst (xs.map D.str))] ∧ xs.length = 33 ∧ xs.all ok8 = true) ?_ (fun N kk => ?_)
  rotate_left
  · refine ⟨_, rfl, rfl, rfl, _, _, rfl, rfl, by decide, rfl, rfl, _, _, rfl, rfl, by decide, _, _, rfl, rfl, by decide, (show 8 ≤ sizeLine by decide), _, _, rfl, rfl, by rw [List.length_map, hl2]; decide, ?_⟩
    refine kk _ ⟨xs ++ [_, _, _, _, _, _, _, _], by rw [List.map_append]; rfl, by rw [List.length_append, hl2]; rfl, by rw [List.all_append, hx]; decide +kernel⟩
  rintro ρ ⟨xs, rfl, hl3, hx⟩
  refine ⟨_, rfl, rfl, rfl, _, rfl, by decide, by decide, fun r r0 r1 => ?_⟩
  obtain ⟨x, hm, e⟩ := atI_strs (xs := xs) r0 (by rw [hl3]; exact r1)
  obtain ⟨h8, hl8⟩ := ok8_iff (List.all_eq_true.mp hx x hm)
  refine ⟨_, _, _, .inr rfl, rfl, e, ?_⟩
  show k (.val (.str x))
  rw [← Str_eta x]
  exact hk _ h8 hl8

theorem sc_law_alone : FnScope ["_law_e", "_law_kind", "_law_kinds"] ["_law_e", "_law_kind"] (defScope s_law_alone) := ⟨rfl, rfl, rfl, by decide +kernel, rfl, by decide +kernel, by decide +kernel⟩
theorem ok_alone {P : Program} {w : World} {K : PySem.W.Frag} {mg : Str → Option Value} {base : Heap} (B : Blts mg) {cNoText cCutError cNoCloth cNoMove cNoName cNoPlan cNoPoint cNoRatio cNoRow : Addr} (Z : RefFacts K cNoText cCutError [cNoCloth, cNoMove, cNoName, cNoPlan, cNoPoint, cNoRatio, cNoRow]) (mNoText : mg "NoText" = some (.ref cNoText)) (mCutError : mg "CutError" = some (.ref cCutError)) (mNoCloth : mg "NoCloth" = some (.ref cNoCloth)) (mNoMove : mg "NoMove" = some (.ref cNoMove)) (mNoName : mg "NoName" = some (.ref cNoName)) (mNoPlan : mg "NoPlan" = some (.ref cNoPlan)) (mNoPoint : mg "NoPoint" = some (.ref cNoPoint)) (mNoRatio : mg "NoRatio" = some (.ref cNoRatio)) (mNoRow : mg "NoRow" = some (.ref cNoRow)) (F : Fnd K mg "_law_alone" s_law_alone ["_law_e", "_law_kind"]) :
    CalH P w K mg base "_law_alone" ["_law_e", "_law_kind"] 2 (spAlone cNoText 7) := by
  refine def3H (lv := 1) F sc_law_alone rfl (fun f cdv e oe A outer s H E hi hc hr => ⟨_, (s_cons (s_set (i := 2) sc_law_alone.nd rfl (Or.inl rfl) (o_e (o_lst (l_cons (e_isX (C := cNoText) (c := cNoCloth) (e := e) (oe := oe) (b := false) 0 List.mem_cons_self hc Z.exc (kit_each Z.any _ (by simp)) mNoCloth (by rfl) (by rfl) B.isinstance_) (l_cons (e_isX (C := cNoText) (c := cNoMove) (e := e) (oe := oe) (b := false) 0 List.mem_cons_self hc Z.exc (kit_each Z.any _ (by simp)) mNoMove (by rfl) (by rfl) B.isinstance_) (l_cons (e_isX (C := cNoText) (c := cNoName) (e := e) (oe := oe) (b := false) 0 List.mem_cons_self hc Z.exc (kit_each Z.any _ (by simp)) mNoName (by rfl) (by rfl) B.isinstance_) (l_cons (e_isX (C := cNoText) (c := cNoPlan) (e := e) (oe := oe) (b := false) 0 List.mem_cons_self hc Z.exc (kit_each Z.any _ (by simp)) mNoPlan (by rfl) (by rfl) B.isinstance_) l_nil))))))) (s_cons (s_set (i := 2) sc_law_alone.nd rfl (Or.inl rfl) (o_e (o_cat (v3 2) (o_e (o_lst (l_cons (e_isX (C := cNoText) (c := cNoPoint) (e := e) (oe := oe) (b := false) 0 List.mem_cons_self hc Z.exc (kit_each Z.any _ (by simp)) mNoPoint (by rfl) (by rfl) B.isinstance_) (l_cons (e_isX (C := cNoText) (c := cNoRatio) (e := e) (oe := oe) (b := false) 0 List.mem_cons_self hc Z.exc (kit_each Z.any _ (by simp)) mNoRatio (by rfl) (by rfl) B.isinstance_) (l_cons (e_isX (C := cNoText) (c := cNoRow) (e := e) (oe := oe) (b := false) 0 List.mem_cons_self hc Z.exc (kit_each Z.any _ (by simp)) mNoRow (by rfl) (by rfl) B.isinstance_) (l_cons (e_isX (C := cNoText) (c := cNoText) (e := e) (oe := oe) (b := true) 0 List.mem_cons_self hc Z.exc Z.self mNoText (by rfl) (by rfl) B.isinstance_) l_nil))))))))) (s_one (s_ret (e_and (e_isXB (C := cNoText) (T := "ValueError") (e := e) (oe := oe) (b := true) 0 List.mem_cons_self hc Z.exc Z.val B.ValueError_ (by decide +kernel) (by rfl) (by rfl) B.isinstance_) (e_one (e_eq (hr.units) (v3 2) (o_e (o_compGH (ts := ["_law_k"]) (fr := ["_law_kind"]) (js := [1]) (i_rngH e_int (by rfl) B.range_) (fun _ _ _ _ => (g_name (i := 0) (show List.Nodup (["_law_k", "_law_kind"] : List Str) by decide +kernel) rfl (Or.inl rfl))) (fun _ _ _ _ => ifs_nil) (fun _ _ _ _ => (e_cmp (f := fun i j => decide (i = j)) op_eqI (v3 1) (v3 0) (nomark _))) ⟨e, oe, hi.hd, hi.b1, List.mem_cons_self⟩ ⟨rfl, by decide +kernel, rfl, by decide +kernel, fsub_of (List.forall_mem_cons.mpr ⟨rfl, (List.forall_mem_nil _)⟩), fhas_b rfl, by walk_at "ffr", rfl⟩)) (nomark _)))))))), ?_⟩)
  refine at3 (r := [.val (.kfn e), .val (.int 7), .no]) rfl ?_
  refine mid4 (fun ρ => ρ = [.val (.kfn e), .val (.int 7), .val (.lst [.bl false, .bl false, .bl false, .bl false])]) ?_ (fun N kk => ⟨rfl, rfl, rfl, rfl, (show 4 ≤ sizeLine by decide), kk _ rfl⟩)
  rintro ρ rfl
  refine mid4 (fun ρ => ρ = [.val (.kfn e), .val (.int 7), .val (.lst [.bl false, .bl false, .bl false, .bl false, .bl false, .bl false, .bl false, .bl true])]) ?_ (fun N kk => ⟨_, rfl, rfl, rfl, rfl, rfl, (show 4 ≤ sizeLine by decide), _, _, rfl, rfl, (show 8 ≤ sizeLine by decide), kk _ rfl⟩)
  rintro ρ rfl
  refine ⟨rfl, _, rfl, iteT3 rfl ?_⟩
  refine ⟨_, rfl, _, rfl, by decide, by decide, (show 8 ≤ sizeLine by decide), ?_⟩
  refine compG_map (f := fun i : Nat => D.int i) (h := fun i : Nat => D.bl (decide ((7 : Int) = i))) (fs := [.val (.int 7)]) (fun i hi k3 hk3 => ⟨_, rfl, _, rfl, _, _, rfl, rfl, hk3⟩) ?_
  refine ⟨.L .B, rfl, rfl, by decide, ?_⟩
  rw [if_neg Bool.false_ne_true]
  have e8 : (List.range (8 : Int).toNat).map (fun i : Nat => D.bl (decide ((7 : Int) = i))) = [.bl false, .bl false, .bl false, .bl false, .bl false, .bl false, .bl false, .bl true] := rfl
  rw [e8, eqD_self]

theorem sc_law_right : FnScope ["_law_text_here", "_law_due", "_law_found", "_law_e", "_law_one", "_law_two"] ["_law_text_here"] (defScope s_law_right) := ⟨rfl, rfl, rfl, by decide +kernel, rfl, by decide +kernel, by decide +kernel⟩

def F_right68  : FS := fun as k => ∃ (l : List Nat), as = [.val (.str (S l))] ∧ (∀ c ∈ l, c < 128) ∧ (l.length ≤ 1000) ∧ k (.val (.bl true))
theorem ok_right68 {P : Program} {w : World} {K : PySem.W.Frag} {mg : Str → Option Value} {base : Heap} (B : Blts mg)  {cNoText cCutError cNoCloth cNoMove cNoName cNoPlan cNoPoint cNoRatio cNoRow : Addr} (Z : RefFacts K cNoText cCutError [cNoCloth, cNoMove, cNoName, cNoPlan, cNoPoint, cNoRatio, cNoRow]) (mNoText : mg "NoText" = some (.ref cNoText)) (mCutError : mg "CutError" = some (.ref cCutError)) (mNoCloth : mg "NoCloth" = some (.ref cNoCloth)) (mNoMove : mg "NoMove" = some (.ref cNoMove)) (mNoName : mg "NoName" = some (.ref cNoName)) (mNoPlan : mg "NoPlan" = some (.ref cNoPlan)) (mNoPoint : mg "NoPoint" = some (.ref cNoPoint)) (mNoRatio : mg "NoRatio" = some (.ref cNoRatio)) (mNoRow : mg "NoRow" = some (.ref cNoRow)) (F : Fnd K mg "_law_right" s_law_right ["_law_text_here"]) (c_read_point : Cal P w K mg base "read_point" ["text"] 5 (Con K 1 F_read_point)) (c_law_point_in : Cal P w K mg base "_law_point_in" ["_law_text_here"] 4 (Con K 1 F_point_inL)) (c_law_point : Cal P w K mg base "_law_point" ["_law_a", "_law_b", "_law_n"] 3 (Con K 3 F_law_point)) (c_X : CalM P w K mg base "read_point" ["text"] 5 cNoText (prT K G_read_pointX)) (c_law_alone : CalH P w K mg base "_law_alone" ["_law_e", "_law_kind"] 2 (spAlone cNoText 7)) :
    Cal P w K mg base "_law_right" ["_law_text_here"] 6 (Con K 1 F_right68) := by
  refine def3 (lv := 5) F sc_law_right rfl (fun f cdv A outer s H E hr => ⟨_, (s_cons (s_set (i := 1) sc_law_right.nd rfl (Or.inl rfl) (e_call c_law_point_in hr (by rfl) (a_val (v3 0) a_nil))) (s_cons (s_or (s_tryOkN (C := cNoText) (ie := 3) Z.own Z.ty Z.base Z.sub ⟨rfl, rfl⟩ (by rfl) mCutError sc_law_right.nd rfl rfl (fun pn xe => s_one (s_set (i := 2) sc_law_right.nd rfl (Or.inl rfl) (e_call c_read_point hr (by rfl) (a_val (v3 0) a_nil))))) (s_tryA (C := cNoText) (ie := 3) (jd := 1) (i := 2) Z.own Z.ty Z.base Z.sub ⟨rfl, rfl⟩ (by rfl) mCutError sc_law_right.nd rfl rfl (by decide) rfl (Or.inl rfl) c_X hr (by rfl) (fun pn xe => (l_cons (v3 0) l_nil)) (fun ds B H vs a b c => ⟨B, ds, a, b, c⟩) (fun e oe pn hc b1 => suite_alone hr c_law_alone hc b1 (by rfl) rfl rfl (.inl rfl) (.inl rfl) (by decide) (by decide) (by decide) (by decide) (by decide) (by decide)))) (s_cons (s_if (t_isN (v3 1) e_non (nomark _)) (s_one (s_ret e_bl)) s_nil) (s_cons (s_asg (v3 1) (g_tup (n := 2) rfl (gs_cons (g_name (i := 4) sc_law_right.nd rfl (Or.inl rfl)) (gs_cons (g_name (i := 5) sc_law_right.nd rfl (Or.inl rfl)) gs_nil)))) (s_one (s_ret (e_eq (hr.units) (v3 2) (e_call c_law_point hr (by rfl) (a_val (e_mul (e_ix (v3 4) e_int (fun _ _ => rfl)) (e_ix (v3 5) e_int (fun _ _ => rfl))) (a_val (e_mul (e_ix (v3 5) e_int (fun _ _ => rfl)) (e_ix (v3 4) e_int (fun _ _ => rfl))) (a_val (e_mul (e_ix (v3 4) e_int (fun _ _ => rfl)) (e_ix (v3 5) e_int (fun _ _ => rfl))) a_nil)))) (nomark _)))))))), ?_⟩)
  rintro as k hl ⟨l, rfl, h8, hl, hk⟩
  refine at3 (r := [.val (.str (S l)), .no, .no, .no, .no, .no]) rfl ?_
  by_cases ok : OkP l
  rotate_left
  · refine mid4 (fun ρ => ρ = [.val (.str (S l)), .val .non, .no, .no, .no, .no]) ?_ (fun N kk => ⟨_, rfl, rfl, l, rfl, h8, hl, .inr ⟨ok, kk _ rfl⟩⟩)
    rintro ρ rfl
    refine .inr ⟨_, rfl, ⟨l, rfl, h8, hl, ok⟩, rfl, hk⟩
  obtain ⟨_, _, ⟨x, y, l1, hx, hy, rfl⟩, ⟨u, v, l2, hu, hv, rfl⟩, e⟩ := id ok
  subst e
  refine mid4 (fun ρ => ρ = [.val (.str (S (rl x y ++ 44 :: rl u v))), .val (.tup [dR (x, y), dR (u, v)]), .no, .no, .no, .no]) ?_ (fun N kk => ⟨_, rfl, rfl, _, rfl, h8, hl, .inl ⟨x, y, u, v, l1, l2, hx, hy, hu, hv, rfl, kk _ rfl⟩⟩)
  rintro ρ rfl
  refine mid4 (fun ρ => ρ = [.val (.str (S (rl x y ++ 44 :: rl u v))), .val (.tup [dR (x, y), dR (u, v)]), .val (dP (npt (x * v) (u * y) (y * v))), .no, .no, .no]) ?_ (fun N kk => .inl ⟨_, rfl, rfl, x, y, u, v, rfl, l1, l2, hx, hy, hu, hv, kk _ rfl⟩)
  rintro ρ rfl
  refine pass4 (fun N hN => ⟨_, rfl, rfl, _, rfl, iteF3 rfl hN⟩) ?_
  refine mid4 (fun ρ => ρ = [.val (.str (S (rl x y ++ 44 :: rl u v))), .val (.tup [dR (x, y), dR (u, v)]), .val (dP (npt (x * v) (u * y) (y * v))), .no, .val (dR (x, y)), .val (dR (u, v))]) ?_ (fun N kk => ?_)
  rotate_left
  · exact ⟨_, rfl, _, rfl, rfl, _, _, rfl, _, _, rfl, rfl, kk _ rfl⟩
  rintro ρ rfl
  have eT : (10 : Int) ^ 30 = 1000000000000000000000000000000 := rfl
  have bx : intBits x ≤ 100 := bits30 (by omega) (by omega)
  have bY : intBits y ≤ 100 := bits30 (by omega) (by omega)
  have bu : intBits u ≤ 100 := bits30 (by omega) (by omega)
  have bv : intBits v ≤ 100 := bits30 (by omega) (by omega)
  refine ⟨_, rfl, ?_⟩
  walk_at "w"
  refine ⟨x * v, u * y, y * v, rfl, Int.ne_of_gt (Int.mul_pos l1.1 l2.1), Nat.le_trans (intBits_mul_le bY bv) (by decide), .T [.I, .I, .I], rfl, rfl, by decide, ?_⟩
  rw [if_neg Bool.false_ne_true, eqD_self]
  exact hk

theorem sc_law : FnScope ["_law_script", "_law_cell_here", "_law_bag_here", "_law_text_here"] ["_law_script"] (defScope s_law) := ⟨rfl, rfl, rfl, by decide +kernel, rfl, by decide +kernel, by decide +kernel⟩
theorem ok_law {P : Program} {w : World} {K : PySem.W.Frag} {mg : Str → Option Value} {base : Heap} {f : Addr} {fd : FuncData} (B : Blts mg) (F : Fun K "law" "law" s_law f fd) (c_law_cell : Cal P w K mg base "_law_cell" ["_law_script", "_law_k"] 1 (Con K 2 F_cell)) (c_law_bag : Cal P w K mg base "_law_bag" ["_law_cell_here"] 1 (Con K 1 F_bag)) (c_law_text : Cal P w K mg base "_law_text" ["_law_one"] 2 (Con K 1 F_textL)) (c_law_rat : Cal P w K mg base "_law_rat" ["_law_bag_here"] 5 (Con K 1 F_ratW)) (c_law_right : Cal P w K mg base "_law_right" ["_law_text_here"] 6 (Con K 1 F_right68)) (c_law_sign_spoiled : Cal P w K mg base "_law_sign_spoiled" ["_law_bag_here", "_law_text_here"] 2 (Con K 2 F_spoiledL)) (c_law_odd : Cal P w K mg base "_law_odd" ["_law_bag_here"] 2 (Con K 1 F_oddL)) :
    FnOk P w K mg base CX0 7 f fd ["_law_script"] (spLaw K) := by
  refine FnOk.imp (sp := Con K 1 F_law) ?_ (fun vs H Q E h => law_con h)
  refine law_def3 (lv := 6) F sc_law rfl (fun cdv A outer s H E hr => ⟨_, (s_cons (s_for PassesOwn.never rfl (i_list (o_e (o_cat (o_e (o_lst (l_cons (e_call c_law_cell hr (by rfl) (a_val (v3 0) (a_val e_int a_nil))) l_nil))) (o_e (o_slice (v3 0) (p_some e_int) (p_some e_int)))))) (g_name (i := 1) sc_law.nd rfl (Or.inl rfl)) (s_cons (s_setN (i := 2) sc_law.nd rfl (Or.inl rfl) (n_call c_law_bag hr (by rfl) (a_val (v3 1) a_nil))) (s_cons (s_set (i := 3) sc_law.nd rfl (Or.inl rfl) (e_addS (e_addS (e_call c_law_text hr (by rfl) (a_val (e_call c_law_rat hr (by rfl) (a_bag 2 a_nil)) a_nil)) e_str) (e_call c_law_text hr (by rfl) (a_val (e_call c_law_rat hr (by rfl) (a_bag 2 a_nil)) a_nil)))) (s_one (s_if (w_t (w_or (t_not (t_val (e_call c_law_right hr (by rfl) (a_val (v3 3) a_nil)))) (w_or (t_not (t_val (e_call c_law_right hr (by rfl) (a_val (e_call c_law_sign_spoiled hr (by rfl) (a_bag 2 (a_val (v3 3) a_nil))) a_nil)))) (w_or1 (t_not (t_val (e_call c_law_right hr (by rfl) (a_val (e_call c_law_odd hr (by rfl) (a_bag 2 a_nil)) a_nil)))))))) (s_one (s_ret e_bl)) s_nil))))) (s_one (s_ret e_bl))), ?_⟩)
  rintro as k hl ⟨ns, rfl, h63, hk⟩
  refine at3 (r := [.val (.scr ns), .no, .no, .no]) rfl ?_
  walk_at "w"
  refine ⟨ns, 0, rfl, by decide, fun z => ?_⟩
  walk_at "w"
  refine ⟨law_len h63, _, rfl, ?_⟩
  refine forR_ints (fun ρ => ∃ v1 v2 v3, ρ = [.val (.scr ns), v1, v2, v3]) ⟨_, _, _, rfl⟩ law_items ?_ ?_
  · rintro c ρ ⟨v1, v2, v3, rfl⟩ N kk
    refine ⟨_, rfl, rfl, c, rfl, rfl, ?_⟩
    dsimp only
    refine mid4 (fun ρ => ∃ m : List Nat, ρ = [.val (.scr ns), .val (.int c), .bag, .val (.str (S m))] ∧ (∀ c ∈ m, c < 128) ∧ m.length ≤ 200) ?_ (fun N kk => ?_)
    rotate_left
    · refine ⟨rfl, rfl, rfl, fun x y l1 hx hy => ?_⟩
      dsimp only [fzR]
      refine ⟨rfl, x, y, rfl, hx, hy, ?_⟩
      have s1 := rl_len hx hy
      refine ⟨_, _, rfl, rfl, by rw [S_len]; exact Nat.le_trans (show (rl x y).length + 1 ≤ 100 by omega) (by decide), ?_⟩
      refine ⟨rfl, rfl, rfl, fun u v l2 hu hv => ?_⟩
      dsimp only [fzR]
      have s2 := rl_len hu hv
      refine ⟨rfl, u, v, rfl, hu, hv, ?_⟩
      rw [s_comma, S_app]
      refine ⟨_, _, rfl, rfl, by rw [S_len, S_len, List.length_append]; exact Nat.le_trans (show (rl x y).length + 1 + (rl u v).length ≤ 200 by omega) (by decide), ?_⟩
      rw [S_app]
      refine kk _ ⟨_, rfl, fun c hc => ?_, by rw [List.length_append, List.length_append]; simp; omega⟩
      rcases List.mem_append.mp hc with z | z
      · rcases List.mem_append.mp z with z | z
        · have := rl_sign _ _ _ z; omega
        · have : c = 44 := List.mem_singleton.mp z
          omega
      · have := rl_sign _ _ _ z; omega
    rintro ρ ⟨m, rfl, m8, ml⟩
    refine ⟨_, rfl, rfl, m, rfl, m8, by omega, _, rfl, iteF3 rfl ?_⟩
    refine ⟨rfl, _, rfl, rfl, m, rfl, m8, ml, fun q q8 ql => ?_⟩
    refine ⟨rfl, q, rfl, q8, by omega, _, rfl, iteF3 rfl ?_⟩
    refine ⟨rfl, rfl, rfl, fun q q8 ql => ?_⟩
    refine ⟨rfl, q, rfl, q8, by omega, _, rfl, ?_⟩
    exact kk _ ⟨_, _, _, rfl⟩
  · rintro ρ ⟨v1, v2, v3, rfl⟩
    exact hk

def FIn (K : PySem.W.Frag) (mg : Str → Option Value) (x : Str) (st : Stmt) : Prop := ∃ f fd, mg x = some (.ref f) ∧ Fun K x x st f fd
theorem fin_mk {K : PySem.W.Frag} {h : Heap} {mg : Str → Option Value} {x : Str} {st : Stmt} {f : Addr} {oc : Value} {od an : Option Addr} {osl : Array (Option Value)} {kV doc pm cdv ct : Value} (X : K.In h) (G : h.Ns mainGlobals mg) (a : PySem.W.nsIn K mainGlobals x = some (some (.ref f))) (l : K.lookup f = some ⟨oc, od, .func (PySem.W.fnOf x x (defArgs st) (defBody st) (defScope st) .none kV doc pm an cdv ct), osl⟩) (c : PySem.W.codeIn K cdv x = true) (k : PySem.W.keepIn K (.ref f) = true) : FIn K mg x st := ⟨f, _, PySem.W.mg_of X G a, fun_mk l c k⟩
theorem fin_fnd {K : PySem.W.Frag} {mg : Str → Option Value} {x : Str} {st : Stmt} {ps : List Str} (h : FIn K mg x st) (b : ∀ f fd, Fun K x x st f fd → Binds K fd ps []) : Fnd K mg x st ps := by
  obtain ⟨f, fd, m, F⟩ := h
  exact ⟨f, fd, m, F, b f fd F⟩
theorem all_mk {l : PySem.W.OpenLaw} {w : World} {K : PySem.W.Frag} {h : Heap} {mg : Str → Option Value} {fa : Addr} (X : K.In h) (G : h.Ns mainGlobals mg) (hfa : mg "law" = some (.ref fa))
    (x1 : FIn K mg "greatest_divisor" s_greatest_divisor)
    (x2 : FIn K mg "ratio" s_ratio)
    (x3 : FIn K mg "at" s_at)
    (x4 : FIn K mg "show_whole" s_show_whole)
    (x5 : FIn K mg "show_ratio" s_show_ratio)
    (x6 : FIn K mg "is_whole" s_is_whole)
    (x7 : FIn K mg "read_whole" s_read_whole)
    (x8 : FIn K mg "read_ratio" s_read_ratio)
    (x9 : FIn K mg "read_point" s_read_point)
    (x10 : FIn K mg "_law_cell" s_law_cell)
    (x11 : FIn K mg "_law_bag" s_law_bag)
    (x12 : FIn K mg "_law_draw" s_law_draw)
    (x13 : FIn K mg "_law_great" s_law_great)
    (x14 : FIn K mg "_law_signed" s_law_signed)
    (x15 : FIn K mg "_law_gcd" s_law_gcd)
    (x16 : FIn K mg "_law_lowest" s_law_lowest)
    (x17 : FIn K mg "_law_rat" s_law_rat)
    (x18 : FIn K mg "_law_point" s_law_point)
    (x19 : FIn K mg "_law_is_whole" s_law_is_whole)
    (x20 : FIn K mg "_law_ratio_in" s_law_ratio_in)
    (x21 : FIn K mg "_law_point_in" s_law_point_in)
    (x22 : FIn K mg "_law_sign_spoiled" s_law_sign_spoiled)
    (x23 : FIn K mg "_law_alone" s_law_alone)
    (x24 : FIn K mg "_law_text" s_law_text)
    (x25 : FIn K mg "_law_odd" s_law_odd)
    (x26 : FIn K mg "_law_right" s_law_right)
    {od27 an27 : Option Addr} {sl27 : Array (Option Value)} {oc27 kV27 dc27 pm27 cd27 ct27 : Value} {f27 : Addr}
    (a27 : PySem.W.nsIn K mainGlobals "law" = some (some (.ref f27))) (l27 : K.lookup f27 = some ⟨oc27, od27, .func (PySem.W.fnOf "law" "law" (defArgs s_law) (defBody s_law) (defScope s_law) .none kV27 dc27 pm27 an27 cd27 ct27), sl27⟩) (c27 : PySem.W.codeIn K cd27 "law" = true) (k27 : PySem.W.keepIn K (.ref f27) = true)
    (z_len : PySem.W.nsIn K mainGlobals "len" = some none)
    (z_abs : PySem.W.nsIn K mainGlobals "abs" = some none)
    (z_int : PySem.W.nsIn K mainGlobals "int" = some none)
    (z_bool : PySem.W.nsIn K mainGlobals "bool" = some none)
    (z_tuple : PySem.W.nsIn K mainGlobals "tuple" = some none)
    (z_isinstance : PySem.W.nsIn K mainGlobals "isinstance" = some none)
    (z_range : PySem.W.nsIn K mainGlobals "range" = some none)
    (z_all : PySem.W.nsIn K mainGlobals "all" = some none)
    (z_sum : PySem.W.nsIn K mainGlobals "sum" = some none)
    (z_list : PySem.W.nsIn K mainGlobals "list" = some none)
    (z_ValueError : PySem.W.nsIn K mainGlobals "ValueError" = some none)
    (z_zip : PySem.W.nsIn K mainGlobals "zip" = some none)
    (z_str : PySem.W.nsIn K mainGlobals "str" = some none)
    (z_enumerate : PySem.W.nsIn K mainGlobals "enumerate" = some none)
    (z_set : PySem.W.nsIn K mainGlobals "set" = some none)
    (z_max : PySem.W.nsIn K mainGlobals "max" = some none)
    (z_min : PySem.W.nsIn K mainGlobals "min" = some none)
    (z_sorted : PySem.W.nsIn K mainGlobals "sorted" = some none)
    (z_dict : PySem.W.nsIn K mainGlobals "dict" = some none)
    {tFIGURES : Tok} (aFIGURES : PySem.W.nsIn K mainGlobals "FIGURES" = some (some (.str (PySem.Str.ofString "0123456789") tFIGURES)))
    {tGREAT : Tok} (aGREAT : PySem.W.nsIn K mainGlobals "GREAT" = some (some (.int 10000000000000000000000000000000000000000000000000000000000000000 tGREAT)))
    {tMOST_FIGURES : Tok} (aMOST_FIGURES : PySem.W.nsIn K mainGlobals "MOST_FIGURES" = some (some (.int 30 tMOST_FIGURES)))
    {cNoText cCutError cNoCloth cNoMove cNoName cNoPlan cNoPoint cNoRatio cNoRow : Addr}
    (n_NoText : PySem.W.nsIn K mainGlobals "NoText" = some (some (.ref cNoText)))
    (n_CutError : PySem.W.nsIn K mainGlobals "CutError" = some (some (.ref cCutError)))
    (n_NoCloth : PySem.W.nsIn K mainGlobals "NoCloth" = some (some (.ref cNoCloth)))
    (n_NoMove : PySem.W.nsIn K mainGlobals "NoMove" = some (some (.ref cNoMove)))
    (n_NoName : PySem.W.nsIn K mainGlobals "NoName" = some (some (.ref cNoName)))
    (n_NoPlan : PySem.W.nsIn K mainGlobals "NoPlan" = some (some (.ref cNoPlan)))
    (n_NoPoint : PySem.W.nsIn K mainGlobals "NoPoint" = some (some (.ref cNoPoint)))
    (n_NoRatio : PySem.W.nsIn K mainGlobals "NoRatio" = some (some (.ref cNoRatio)))
    (n_NoRow : PySem.W.nsIn K mainGlobals "NoRow" = some (some (.ref cNoRow)))
    (r1 : PySem.W.findIn K (.ref cNoText) "__getattribute__" = some (some (.builtin "BaseException.__getattribute__")))
    (r2 : PySem.W.findIn K (.ref cNoText) "__getattr__" = some none)
    (r3 : PySem.W.findIn K (.ref cNoText) "__class__" = some (some (.builtin "object.__class__")))
    (r4 : PySem.W.subIn K (.ref cNoText) (.type "BaseException") = some true)
    (r5 : PySem.W.subIn K (.ref cNoText) (.type "object") = some true)
    (r6 : PySem.W.mroIn K cNoText (.type "object") = some true)
    (y1 : PySem.W.excIn K cNoText [.type "ValueError", .type "Exception", .type "BaseException", .type "object"] "ValueError.__new__" = true)
    (y2 : PySem.W.mroIn K cCutError (.type "object") = some true)
    (y3 : PySem.W.typeIn K (.ref cCutError) = some (.type "type"))
    (y4 : PySem.W.subIn K (.ref cCutError) (.type "BaseException") = some true)
    (y5 : PySem.W.subIn K (.ref cNoText) (.ref cCutError) = some true)
    (y6 : PySem.W.kitAny K (.ref cNoText) [.ref cNoCloth, .ref cNoMove, .ref cNoName, .ref cNoPlan, .ref cNoPoint, .ref cNoRatio, .ref cNoRow] = some false)
    (y7 : PySem.W.kitOne K (.ref cNoText) (.ref cNoText) = some true)
    (y8 : PySem.W.kitOne K (.ref cNoText) (.type "ValueError") = some true)
    : ∃ fd : FuncData, (∀ (s : Shared) (v : Value), BindsTo s fd ⟨[v], []⟩ [("_law_script", v)]) ∧ ∀ base : Heap, K.In base → base.Ns mainGlobals mg → FnOk l.prog w K mg base CX0 7 fa fd ["_law_script"] (spLaw K) := by
  have e := hfa.symm.trans (PySem.W.mg_of X G a27)
  cases e
  have g_greatest_divisor := fin_fnd (ps := ["one", "other"]) x1 fun _ _ F => F.binds fun _ _ _ _ _ _ us hl => match us, hl with | [_, _], _ => rfl
  have g_ratio := fin_fnd (ps := ["top", "bottom"]) x2 fun _ _ F => F.binds fun _ _ _ _ _ _ us hl => match us, hl with | [_, _], _ => rfl
  have g_at := fin_fnd (ps := ["x", "y"]) x3 fun _ _ F => F.binds fun _ _ _ _ _ _ us hl => match us, hl with | [_, _], _ => rfl
  have g_show_whole := fin_fnd (ps := ["number"]) x4 fun _ _ F => F.binds fun _ _ _ _ _ _ us hl => match us, hl with | [_], _ => rfl
  have g_show_ratio := fin_fnd (ps := ["one"]) x5 fun _ _ F => F.binds fun _ _ _ _ _ _ us hl => match us, hl with | [_], _ => rfl
  have g_is_whole := fin_fnd (ps := ["text"]) x6 fun _ _ F => F.binds fun _ _ _ _ _ _ us hl => match us, hl with | [_], _ => rfl
  have g_read_whole := fin_fnd (ps := ["text"]) x7 fun _ _ F => F.binds fun _ _ _ _ _ _ us hl => match us, hl with | [_], _ => rfl
  have g_read_ratio := fin_fnd (ps := ["text"]) x8 fun _ _ F => F.binds fun _ _ _ _ _ _ us hl => match us, hl with | [_], _ => rfl
  have g_read_point := fin_fnd (ps := ["text"]) x9 fun _ _ F => F.binds fun _ _ _ _ _ _ us hl => match us, hl with | [_], _ => rfl
  have g_law_cell := fin_fnd (ps := ["_law_script", "_law_k"]) x10 fun _ _ F => F.binds fun _ _ _ _ _ _ us hl => match us, hl with | [_, _], _ => rfl
  have g_law_bag := fin_fnd (ps := ["_law_cell_here"]) x11 fun _ _ F => F.binds fun _ _ _ _ _ _ us hl => match us, hl with | [_], _ => rfl
  have g_law_draw := fin_fnd (ps := ["_law_bag_here", "_law_many"]) x12 fun _ _ F => F.binds fun _ _ _ _ _ _ us hl => match us, hl with | [_, _], _ => rfl
  have g_law_great := fin_fnd (ps := ["_law_bag_here"]) x13 fun _ _ F => F.binds fun _ _ _ _ _ _ us hl => match us, hl with | [_], _ => rfl
  have g_law_signed := fin_fnd (ps := ["_law_bag_here"]) x14 fun _ _ F => F.binds fun _ _ _ _ _ _ us hl => match us, hl with | [_], _ => rfl
  have g_law_gcd := fin_fnd (ps := ["_law_one", "_law_two"]) x15 fun _ _ F => F.binds fun _ _ _ _ _ _ us hl => match us, hl with | [_, _], _ => rfl
  have g_law_lowest := fin_fnd (ps := ["_law_top", "_law_bottom"]) x16 fun _ _ F => F.binds fun _ _ _ _ _ _ us hl => match us, hl with | [_, _], _ => rfl
  have g_law_rat := fin_fnd (ps := ["_law_bag_here"]) x17 fun _ _ F => F.binds fun _ _ _ _ _ _ us hl => match us, hl with | [_], _ => rfl
  have g_law_point := fin_fnd (ps := ["_law_a", "_law_b", "_law_n"]) x18 fun _ _ F => F.binds fun _ _ _ _ _ _ us hl => match us, hl with | [_, _, _], _ => rfl
  have g_law_is_whole := fin_fnd (ps := ["_law_text_here"]) x19 fun _ _ F => F.binds fun _ _ _ _ _ _ us hl => match us, hl with | [_], _ => rfl
  have g_law_ratio_in := fin_fnd (ps := ["_law_text_here"]) x20 fun _ _ F => F.binds fun _ _ _ _ _ _ us hl => match us, hl with | [_], _ => rfl
  have g_law_point_in := fin_fnd (ps := ["_law_text_here"]) x21 fun _ _ F => F.binds fun _ _ _ _ _ _ us hl => match us, hl with | [_], _ => rfl
  have g_law_sign_spoiled := fin_fnd (ps := ["_law_bag_here", "_law_text_here"]) x22 fun _ _ F => F.binds fun _ _ _ _ _ _ us hl => match us, hl with | [_, _], _ => rfl
  have g_law_alone := fin_fnd (ps := ["_law_e", "_law_kind"]) x23 fun _ _ F => F.binds fun _ _ _ _ _ _ us hl => match us, hl with | [_, _], _ => rfl
  have g_law_text := fin_fnd (ps := ["_law_one"]) x24 fun _ _ F => F.binds fun _ _ _ _ _ _ us hl => match us, hl with | [_], _ => rfl
  have g_law_odd := fin_fnd (ps := ["_law_bag_here"]) x25 fun _ _ F => F.binds fun _ _ _ _ _ _ us hl => match us, hl with | [_], _ => rfl
  have g_law_right := fin_fnd (ps := ["_law_text_here"]) x26 fun _ _ F => F.binds fun _ _ _ _ _ _ us hl => match us, hl with | [_], _ => rfl
  have F27 := fun_mk (st := s_law) l27 c27 k27
  have B : Blts mg := ⟨PySem.W.mg_none_of X G z_len, PySem.W.mg_none_of X G z_abs, PySem.W.mg_none_of X G z_int, PySem.W.mg_none_of X G z_bool, PySem.W.mg_none_of X G z_tuple, PySem.W.mg_none_of X G z_isinstance, PySem.W.mg_none_of X G z_range, PySem.W.mg_none_of X G z_all, PySem.W.mg_none_of X G z_sum, PySem.W.mg_none_of X G z_list, PySem.W.mg_none_of X G z_ValueError, PySem.W.mg_none_of X G z_zip, PySem.W.mg_none_of X G z_str, PySem.W.mg_none_of X G z_enumerate, PySem.W.mg_none_of X G z_set, PySem.W.mg_none_of X G z_max, PySem.W.mg_none_of X G z_min, PySem.W.mg_none_of X G z_sorted, PySem.W.mg_none_of X G z_dict⟩
  have G_FIGURES := PySem.W.mg_of X G aFIGURES
  have G_GREAT := PySem.W.mg_of X G aGREAT
  have G_MOST_FIGURES := PySem.W.mg_of X G aMOST_FIGURES
  have Z : RefFacts K cNoText cCutError [cNoCloth, cNoMove, cNoName, cNoPlan, cNoPoint, cNoRatio, cNoRow] := ⟨⟨r1, r2, r3, r4, r5, cls_of_mro r6⟩, y1, cls_of_mro y2, y3, y4, y5, y6, y7, y8⟩
  have mNoText := PySem.W.mg_of X G n_NoText
  have mCutError := PySem.W.mg_of X G n_CutError
  have mNoCloth := PySem.W.mg_of X G n_NoCloth
  have mNoMove := PySem.W.mg_of X G n_NoMove
  have mNoName := PySem.W.mg_of X G n_NoName
  have mNoPlan := PySem.W.mg_of X G n_NoPlan
  have mNoPoint := PySem.W.mg_of X G n_NoPoint
  have mNoRatio := PySem.W.mg_of X G n_NoRatio
  have mNoRow := PySem.W.mg_of X G n_NoRow
  refine ⟨PySem.W.fnOf "law" "law" (defArgs s_law) (defBody s_law) (defScope s_law) .none kV27 dc27 pm27 an27 cd27 ct27, fun s v => .of_eq rfl, fun base _ _ => ?_⟩
  have q_law_cell := ok_law_cell (P := l.prog) (w := w) (base := base) B   g_law_cell 
  have q_bagA := ok_bagA (P := l.prog) (w := w) (base := base) B   g_law_bag 
  have q_drawA := ok_drawA (P := l.prog) (w := w) (base := base) B   g_law_draw 
  have q_law_great := ok_law_great (P := l.prog) (w := w) (base := base) B   g_law_great q_drawA
  have q_law_signed := ok_law_signed (P := l.prog) (w := w) (base := base) B   g_law_signed q_drawA q_law_great
  have q_law_gcd := ok_law_gcd (P := l.prog) (w := w) (base := base) B   g_law_gcd 
  have q_lowestP := ok_lowestP (P := l.prog) (w := w) (base := base) B   g_law_lowest q_law_gcd
  have q_lowestN := ok_lowestN (P := l.prog) (w := w) (base := base) B   g_law_lowest q_lowestP q_law_gcd
  have q_ratW := ok_ratW (P := l.prog) (w := w) (base := base) B   g_law_rat q_drawA q_lowestN q_law_great q_law_signed
  have q_law_point := ok_law_point (P := l.prog) (w := w) (base := base) B   g_law_point q_law_gcd
  have q_greatest_divisor := ok_greatest_divisor (P := l.prog) (w := w) (base := base) B   g_greatest_divisor 
  have q_ratio := ok_ratio (P := l.prog) (w := w) (base := base) B   g_ratio q_greatest_divisor
  have q_at := ok_at (P := l.prog) (w := w) (base := base) B   g_at q_greatest_divisor
  have q_show_whole := ok_show_whole (P := l.prog) (w := w) (base := base) B G_GREAT  g_show_whole 
  have q_show_ratio := ok_show_ratio (P := l.prog) (w := w) (base := base) B   g_show_ratio q_show_whole
  have q_is_wholeA := ok_is_wholeA (P := l.prog) (w := w) (base := base) B G_FIGURES G_MOST_FIGURES  g_is_whole 
  have q_read_wholeA := ok_read_wholeA (P := l.prog) (w := w) (base := base) B   g_read_whole q_is_wholeA
  have q_read_wholeX := ok_read_wholeX (P := l.prog) (w := w) (base := base) B  Z.inn mNoText g_read_whole q_is_wholeA
  have q_read_ratio := ok_read_ratio (P := l.prog) (w := w) (base := base) B   g_read_ratio q_read_wholeA q_ratio q_show_ratio
  have q_read_ratioX := ok_read_ratioX (P := l.prog) (w := w) (base := base) B  Z.inn mNoText g_read_ratio q_read_wholeA q_ratio q_show_ratio q_read_wholeX
  have q_read_point := ok_read_point (P := l.prog) (w := w) (base := base) B   g_read_point q_at q_read_ratio
  have q_read_pointX := ok_read_pointX (P := l.prog) (w := w) (base := base) B  Z.inn mNoText g_read_point q_at q_read_ratio q_read_ratioX
  have q_is_wholeL := ok_is_wholeL (P := l.prog) (w := w) (base := base) B   g_law_is_whole 
  have q_ratio_inL := ok_ratio_inL (P := l.prog) (w := w) (base := base) B   g_law_ratio_in q_is_wholeL q_law_gcd
  have q_point_inL := ok_point_inL (P := l.prog) (w := w) (base := base) B   g_law_point_in q_ratio_inL
  have q_spoiledL := ok_spoiledL (P := l.prog) (w := w) (base := base) B   g_law_sign_spoiled q_drawA
  have q_textL := ok_textL (P := l.prog) (w := w) (base := base) B   g_law_text 
  have q_oddL := ok_oddL (P := l.prog) (w := w) (base := base) B   g_law_odd q_drawA
  have q_alone := ok_alone (P := l.prog) (w := w) (base := base) B  Z mNoText mCutError mNoCloth mNoMove mNoName mNoPlan mNoPoint mNoRatio mNoRow g_law_alone 
  have q_right68 := ok_right68 (P := l.prog) (w := w) (base := base) B  Z mNoText mCutError mNoCloth mNoMove mNoName mNoPlan mNoPoint mNoRatio mNoRow g_law_right q_read_point q_point_inL q_law_point q_read_pointX q_alone
  exact ok_law B F27 q_law_cell q_bagA q_textL q_ratW q_right68 q_spoiledL q_oddL
theorem walk {l : PySem.W.OpenLaw} {q : Program} {loose : List Str} {XP : (Str → Option Value) → Heap → Prop} {YP : World → Heap → Prop} {d : DefRec} {K : Params → PySem.W.Frag} (hn : l.most = some 63) (hdf : d.params.defaults = [])
    (hY : ∀ (w : World) (h : Heap), YP w h → (K w.params).In h) (hT : ∀ w : World, tabsK (K w.params) = [])
    (F : ∀ (w : World) (mg : Str → Option Value) (fa : Addr) (h : Heap), (K w.params).In h → h.Ns mainGlobals mg → mg d.name = some (.ref fa) →
      ∃ fd : FuncData, (∀ (s : Shared) (u : Value), BindsTo s fd ⟨[u], []⟩ [("_law_script", u)]) ∧ ∀ base : Heap, (K w.params).In base → base.Ns mainGlobals mg → FnOk l.prog w (K w.params) mg base CX0 7 fa fd ["_law_script"] (spLaw (K w.params))) :
    PySem.W.WalkO q loose XP YP l.row.toRowW d [] (fun f vs => PySem.call f vs) :=
  L2.walk_of (n := 63) (k := 7) (x := "_law_script") (CX := fun _ => CX0) (sp := fun w => spLaw (K w.params)) hn (by decide) hdf ⟨rfl, by decide, by decide⟩ hY hT F (fun _ _ a ns hl _ hS => ⟨a, ns, rfl, hS, hl, fun _ => rfl⟩) fun _ _ _ _ _ z => z
end Cut
open PySem PySem.W PyProof.Rows
set_option maxRecDepth 100000 in
set_option maxHeartbeats 0 in
theorem PySem.Challenge.cw_slidecut_k68_texts_of_no_point_holds : PySem.Challenge.rw_slidecut_k68_texts_of_no_point.Holds := by
  w_on; o_law; k_head; (case hw => w_witness2)
  k_fill
  refine Cut.walk (l := PySem.Challenge.rw_slidecut_k68_texts_of_no_point) rfl rfl (fun w h Y => PySem.W.kIn_of Y) (fun w => rfl) ?F
  case F =>
    intro w mg fa h KX G hmg
    refine' Cut.all_mk KX G hmg (Cut.fin_mk KX G ?a1 ?l1 ?c1 ?k1) (Cut.fin_mk KX G ?a2 ?l2 ?c2 ?k2) (Cut.fin_mk KX G ?a3 ?l3 ?c3 ?k3) (Cut.fin_mk KX G ?a4 ?l4 ?c4 ?k4) (Cut.fin_mk KX G ?a5 ?l5 ?c5 ?k5) (Cut.fin_mk KX G ?a6 ?l6 ?c6 ?k6) (Cut.fin_mk KX G ?a7 ?l7 ?c7 ?k7) (Cut.fin_mk KX G ?a8 ?l8 ?c8 ?k8) (Cut.fin_mk KX G ?a9 ?l9 ?c9 ?k9) (Cut.fin_mk KX G ?a10 ?l10 ?c10 ?k10) (Cut.fin_mk KX G ?a11 ?l11 ?c11 ?k11) (Cut.fin_mk KX G ?a12 ?l12 ?c12 ?k12) (Cut.fin_mk KX G ?a13 ?l13 ?c13 ?k13) (Cut.fin_mk KX G ?a14 ?l14 ?c14 ?k14) (Cut.fin_mk KX G ?a15 ?l15 ?c15 ?k15) (Cut.fin_mk KX G ?a16 ?l16 ?c16 ?k16) (Cut.fin_mk KX G ?a17 ?l17 ?c17 ?k17) (Cut.fin_mk KX G ?a18 ?l18 ?c18 ?k18) (Cut.fin_mk KX G ?a19 ?l19 ?c19 ?k19) (Cut.fin_mk KX G ?a20 ?l20 ?c20 ?k20) (Cut.fin_mk KX G ?a21 ?l21 ?c21 ?k21) (Cut.fin_mk KX G ?a22 ?l22 ?c22 ?k22) (Cut.fin_mk KX G ?a23 ?l23 ?c23 ?k23) (Cut.fin_mk KX G ?a24 ?l24 ?c24 ?k24) (Cut.fin_mk KX G ?a25 ?l25 ?c25 ?k25) (Cut.fin_mk KX G ?a26 ?l26 ?c26 ?k26) ?a27 ?l27 ?c27 ?k27 ?z_len ?z_abs ?z_int ?z_bool ?z_tuple ?z_isinstance ?z_range ?z_all ?z_sum ?z_list ?z_ValueError ?z_zip ?z_str ?z_enumerate ?z_set ?z_max ?z_min ?z_sorted ?z_dict ?aFIGURES ?aGREAT ?aMOST_FIGURES ?n_NoText ?n_CutError ?n_NoCloth ?n_NoMove ?n_NoName ?n_NoPlan ?n_NoPoint ?n_NoRatio ?n_NoRow ?r1 ?r2 ?r3 ?r4 ?r5 ?r6 ?y1 ?y2 ?y3 ?y4 ?y5 ?y6 ?y7 ?y8
    (case a1 => k_is); (case l1 => k_is); (case c1 => k_is); (case k1 => k_is)
    (case a2 => k_is); (case l2 => k_is); (case c2 => k_is); (case k2 => k_is)
    (case a3 => k_is); (case l3 => k_is); (case c3 => k_is); (case k3 => k_is)
    (case a4 => k_is); (case l4 => k_is); (case c4 => k_is); (case k4 => k_is)
    (case a5 => k_is); (case l5 => k_is); (case c5 => k_is); (case k5 => k_is)
    (case a6 => k_is); (case l6 => k_is); (case c6 => k_is); (case k6 => k_is)
    (case a7 => k_is); (case l7 => k_is); (case c7 => k_is); (case k7 => k_is)
    (case a8 => k_is); (case l8 => k_is); (case c8 => k_is); (case k8 => k_is)
    (case a9 => k_is); (case l9 => k_is); (case c9 => k_is); (case k9 => k_is)
    (case a10 => k_is); (case l10 => k_is); (case c10 => k_is); (case k10 => k_is)
    (case a11 => k_is); (case l11 => k_is); (case c11 => k_is); (case k11 => k_is)
    (case a12 => k_is); (case l12 => k_is); (case c12 => k_is); (case k12 => k_is)
    (case a13 => k_is); (case l13 => k_is); (case c13 => k_is); (case k13 => k_is)
    (case a14 => k_is); (case l14 => k_is); (case c14 => k_is); (case k14 => k_is)
    (case a15 => k_is); (case l15 => k_is); (case c15 => k_is); (case k15 => k_is)
    (case a16 => k_is); (case l16 => k_is); (case c16 => k_is); (case k16 => k_is)
    (case a17 => k_is); (case l17 => k_is); (case c17 => k_is); (case k17 => k_is)
    (case a18 => k_is); (case l18 => k_is); (case c18 => k_is); (case k18 => k_is)
    (case a19 => k_is); (case l19 => k_is); (case c19 => k_is); (case k19 => k_is)
    (case a20 => k_is); (case l20 => k_is); (case c20 => k_is); (case k20 => k_is)
    (case a21 => k_is); (case l21 => k_is); (case c21 => k_is); (case k21 => k_is)
    (case a22 => k_is); (case l22 => k_is); (case c22 => k_is); (case k22 => k_is)
    (case a23 => k_is); (case l23 => k_is); (case c23 => k_is); (case k23 => k_is)
    (case a24 => k_is); (case l24 => k_is); (case c24 => k_is); (case k24 => k_is)
    (case a25 => k_is); (case l25 => k_is); (case c25 => k_is); (case k25 => k_is)
    (case a26 => k_is); (case l26 => k_is); (case c26 => k_is); (case k26 => k_is)
    (case a27 => k_is); (case l27 => k_is); (case c27 => k_is); (case k27 => k_is)
    (case z_len => k_is)
    (case z_abs => k_is)
    (case z_int => k_is)
    (case z_bool => k_is)
    (case z_tuple => k_is)
    (case z_isinstance => k_is)
    (case z_range => k_is)
    (case z_all => k_is)
    (case z_sum => k_is)
    (case z_list => k_is)
    (case z_ValueError => k_is)
    (case z_zip => k_is)
    (case z_str => k_is)
    (case z_enumerate => k_is)
    (case z_set => k_is)
    (case z_max => k_is)
    (case z_min => k_is)
    (case z_sorted => k_is)
    (case z_dict => k_is)
    (case aFIGURES => k_is)
    (case aGREAT => k_is)
    (case aMOST_FIGURES => k_is)
    (case n_NoText => k_is)
    (case n_CutError => k_is)
    (case n_NoCloth => k_is)
    (case n_NoMove => k_is)
    (case n_NoName => k_is)
    (case n_NoPlan => k_is)
    (case n_NoPoint => k_is)
    (case n_NoRatio => k_is)
    (case n_NoRow => k_is)
    (case r1 => k_is)
    (case r2 => k_is)
    (case r3 => k_is)
    (case r4 => k_is)
    (case r5 => k_is)
    (case r6 => k_is)
    (case y1 => k_exc)
    (case y2 => k_is)
    (case y3 => k_is)
    (case y4 => k_is)
    (case y5 => k_is)
    (case y6 => kit_is)
    (case y7 => kit_is)
    (case y8 => kit_is)
#print axioms PySem.Challenge.cw_slidecut_k68_texts_of_no_point_holds